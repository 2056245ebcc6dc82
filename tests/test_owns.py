import unittest

import plainly
import plainmending
import plainwheels
from plainly import table
from plainwheels import EIGHT, FIFTEEN, GREAT, NINE, SIX, SMALL

from roundwords.owns import own_word
from roundwords.turning import round_product
from roundwords.words import is_word

HAMMING = ((2, 3, 3), 1, 2, (1, 2, 4))
LONGER = [SIX, EIGHT, NINE, FIFTEEN]


def round_sum(known, one, other):
    n = len(one)
    found = [0] * n
    for i, a in enumerate(one):
        if a:
            for j, b in enumerate(other):
                found[(i + j) % n] = known.sums[found[(i + j) % n]][known.products[a][b]]
    return tuple(found)


class OwnWord(unittest.TestCase):
    def check_word(self, wheel):
        """Told, and a word of the wheel whose round product with itself is itself."""
        told = own_word(wheel)
        self.assertTrue(plainly.is_numbers(told))
        field, few, root, marks = wheel
        known = table(field)
        self.assertEqual(len(told), plainwheels.length(field, root))
        self.assertTrue(all(letter in known.letters(few) for letter in told), wheel)
        # A word that is 1 at each other power leaves all words as they are, and only so.
        self.assertEqual(plainwheels.noughts(field, root, told), set(marks), wheel)
        self.assertIs(is_word(wheel, told), True)
        self.assertEqual(round_sum(known, told, told), told)
        self.assertEqual(own_word(wheel), told)
        return told

    def test_small_wheels_word_by_word(self):
        for base in SMALL:
            known = table(base[0])
            for wheel in plainmending.some(plainwheels.wheels(*base), 20):
                told = self.check_word(wheel)
                every = plainwheels.words(wheel)
                self.assertIn(told, every)
                for word in plainmending.some(every, 90):
                    self.assertEqual(round_sum(known, told, word), word, (wheel, word))
                    self.assertEqual(round_product(base[0], word, told), word)

    def test_no_other_word_is_so(self):
        for base in SMALL:
            known = table(base[0])
            for wheel in plainmending.some(plainwheels.wheels(*base), 10):
                every = plainwheels.words(wheel)
                if len(every) > 130:
                    continue
                so = [one for one in every if all(round_sum(known, one, word) == word for word in every)]
                self.assertEqual(so, [own_word(wheel)], wheel)

    def test_longer_ones(self):
        draw = plainmending.drawer(51)
        for base in LONGER:
            known = table(base[0])
            for wheel in plainmending.some(plainwheels.wheels(*base), 24):
                told = self.check_word(wheel)
                for _ in range(3):
                    word = plainmending.drawn_word(draw, wheel)
                    self.assertEqual(round_sum(known, told, word), word, wheel)
                row = plainwheels.maker(base[0], base[2], wheel[3])
                if len(row) <= len(told):
                    row += (0,) * (len(told) - len(row))
                    self.assertEqual(round_sum(known, told, row), row)

    def test_great_ones(self):
        draw = plainmending.drawer(52)
        for wheel, _ in plainmending.LONG:
            told = self.check_word(wheel)
            word = plainmending.drawn_word(draw, wheel)
            self.assertEqual(round_sum(table(wheel[0]), told, word), word, wheel)

    def test_no_marks_and_all_marks(self):
        for base in SMALL + LONGER + [GREAT, ((2, 6, 3), 6, 2), ((61, 1, 0), 1, 2)]:
            n = plainwheels.length(base[0], base[2])
            self.assertEqual(own_word(base + ((),)), (1,) + (0,) * (n - 1))
            self.assertEqual(own_word(base + (tuple(range(n)),)), (0,) * n)

    def test_by_hand(self):
        self.assertEqual(own_word(HAMMING), (0, 1, 1, 0, 1, 0, 0))
        self.assertEqual(own_word(HAMMING[:3] + ((1, 2, 3, 4, 5, 6),)), (1,) * 7)
        self.assertEqual(own_word(((3, 1, 0), 1, 2, (1,))), (2, 2))
        self.assertEqual(own_word(((3, 1, 0), 1, 2, (0,))), (2, 1))


if __name__ == "__main__":
    unittest.main()
