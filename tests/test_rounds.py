import itertools
import unittest

import plainly
from plainly import table

from roundwords.rounds import rounded, word_sum, word_times


class Rounded(unittest.TestCase):
    def test_each_letter_comes_to_its_place(self):
        for n in range(1, 10):
            word = tuple(range(10, 10 + n))
            for by in list(range(-3 * n, 3 * n + 1)) + [10 ** 50, -10 ** 50, 10 ** 50 + 1, -10 ** 50 - 1]:
                told = rounded(word, by)
                expected = [None] * n
                for k in range(n):
                    expected[(k + by) % n] = word[k]
                self.assertEqual(told, tuple(expected), (n, by))
                self.assertIs(type(told), tuple)

    def test_edges(self):
        word = (1, 2, 3, 4)
        self.assertEqual(rounded(word, 0), word)
        self.assertEqual(rounded(word, 4), word)
        self.assertEqual(rounded(word, -4), word)
        self.assertEqual(rounded(word, 1), (4, 1, 2, 3))
        self.assertEqual(rounded(word, -1), (2, 3, 4, 1))
        self.assertEqual(rounded((5,), 10 ** 40), (5,))
        self.assertEqual(rounded((5,), -3), (5,))
        self.assertEqual(word, (1, 2, 3, 4))


class Sums(unittest.TestCase):
    def test_place_by_place(self):
        for field in [(2, 1, 0), (3, 1, 1), (2, 2, 3), (3, 2, 2), (7, 1, 3)]:
            known = table(field)
            both = list(itertools.product(known.things, repeat=2))
            one = tuple(a for a, b in both)
            other = tuple(b for a, b in both)
            told = word_sum(field, one, other)
            self.assertEqual(told, tuple(known.sums[a][b] for a, b in both))
            self.assertTrue(plainly.is_numbers(told))
            self.assertEqual(word_sum(field, one, other), told)
            for at in known.things:
                self.assertEqual(word_sum(field, one[at:at + 1], other[:1]), (known.sums[one[at]][other[0]],))

    def test_noughts_at_the_end_stay(self):
        self.assertEqual(word_sum((2, 1, 0), (1, 1, 1), (0, 1, 1)), (1, 0, 0))
        self.assertEqual(word_times((2, 3, 3), 0, (1, 5, 7)), (0, 0, 0))
        self.assertEqual(word_times((2, 3, 3), 5, (1, 0, 0)), (5, 0, 0))

    def test_times_place_by_place(self):
        for field in [(2, 1, 0), (3, 1, 1), (2, 2, 3), (2, 6, 3), (3, 2, 2), (7, 1, 3)]:
            known = table(field)
            word = tuple(known.things)
            for one in known.things:
                told = word_times(field, one, word)
                self.assertEqual(told, tuple(known.products[one][thing] for thing in word))
                self.assertTrue(plainly.is_numbers(told))
                self.assertEqual(word_times(field, one, word), told)
                self.assertEqual(word_times(field, one, (1,)), (one,))


if __name__ == "__main__":
    unittest.main()
