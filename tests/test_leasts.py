import itertools
import math
import unittest

import plainly
import plainmending
import plainwheels
from plainly import table
from plainwheels import EIGHT, FIFTEEN, GREAT, NINE, SIX, SMALL

from roundwords.errors import TooMany
from roundwords.leasts import counts, least, weight, wide_counts
from roundwords.words import how_many

HAMMING = ((2, 3, 3), 1, 2, (1, 2, 4))
JUST = [FIFTEEN + ((0, 5, 10),), ((2, 6, 3), 6, 2, tuple(range(61))), ((2, 4, 3), 4, 2, tuple(range(3, 15))),
        ((2, 3, 3), 3, 2, (0, 3, 6))]
ABOVE = [FIFTEEN + ((5, 10),), FIFTEEN + ((),), GREAT + ((),), ((2, 6, 3), 6, 2, tuple(range(60))),
         ((2, 6, 3), 6, 2, ()), EIGHT + ((),), ((17, 1, 0), 1, 3, tuple(range(13))), ((61, 1, 0), 1, 2, (0,))]


def multiples(wheel):
    """All words, as multiples of the maker."""
    field, few, root, marks = wheel
    known = table(field)
    n = plainwheels.length(field, root)
    row = plainwheels.maker(field, root, marks)
    found = []
    for by in itertools.product(known.letters(few), repeat=n - len(marks)):
        product = known.row_times(row, plainly.trimmed(by))
        found.append(product + (0,) * (n - len(product)))
    return found


def weigh(word):
    return sum(thing != 0 for thing in word)


def least_of(every):
    weights = [(weigh(word), word) for word in every if any(word)]
    return min(weights) if weights else None


def counts_of(every, n):
    weights = [weigh(word) for word in every]
    return tuple(weights.count(w) for w in range(n + 1))


class Weight(unittest.TestCase):
    def test_by_hand(self):
        for word, told in [((), 0), ((0,), 0), ((1,), 1), ((0, 0, 0), 0), ((5, 0, 63), 2), ((1, 2, 3), 3), ((0, 0, 1), 1),
                           ((7,) * 63, 63), ((2, 2, 0, 2), 3)]:
            self.assertEqual(weight(word), told)
            self.assertIs(type(weight(word)), int)

    def test_all_rows_of_three(self):
        for word in itertools.product(range(4), repeat=3):
            self.assertEqual(weight(word), weigh(word))


class LeastAndCounts(unittest.TestCase):
    def check(self, wheel, every):
        n = plainwheels.length(wheel[0], wheel[2])
        told = least(wheel)
        self.assertEqual(told, least_of(every), wheel)
        self.assertTrue(told is None or type(told[0]) is int and plainly.is_numbers(told[1]))
        counted = counts(wheel)
        self.assertTrue(plainly.is_numbers(counted))
        self.assertEqual(counted, counts_of(every, n), wheel)
        self.assertEqual(sum(counted), how_many(wheel))

    def test_all_wheels_of_small_roots(self):
        for base in SMALL + [EIGHT, NINE]:
            for wheel in plainwheels.wheels(*base):
                if how_many(wheel) <= 4096:
                    self.check(wheel, plainwheels.words(wheel))

    def test_wheels_of_fifteen_and_of_six(self):
        for base in (FIFTEEN, SIX):
            for wheel in plainwheels.wheels(*base):
                if how_many(wheel) <= 350:
                    self.check(wheel, multiples(wheel))

    def test_just_4096(self):
        for wheel in JUST:
            self.assertEqual(how_many(wheel), 4096)
            self.check(wheel, multiples(wheel))

    def test_one_word_alone(self):
        for base in SMALL + [SIX, EIGHT, NINE, FIFTEEN, GREAT, ((2, 6, 3), 6, 2), ((61, 1, 0), 1, 2)]:
            n = plainwheels.length(base[0], base[2])
            wheel = base + (tuple(range(n)),)
            for _ in range(2):
                self.assertIsNone(least(wheel))
                self.assertEqual(counts(wheel), (1,) + (0,) * n)

    def test_all_tuples_are_words(self):
        for base in [((2, 1, 0), 1, 1), ((3, 1, 0), 1, 2), ((2, 2, 3), 1, 2), ((2, 2, 3), 2, 3), ((2, 3, 3), 1, 2)]:
            n = plainwheels.length(base[0], base[2])
            q = base[0][0] ** base[1]
            wheel = base + ((),)
            self.assertEqual(least(wheel), (1, (0,) * (n - 1) + (1,)))
            self.assertEqual(counts(wheel), tuple(math.comb(n, w) * (q - 1) ** w for w in range(n + 1)))

    def test_the_first_of_the_lightest(self):
        self.assertEqual(least(HAMMING), (3, (0, 0, 0, 1, 1, 0, 1)))
        self.assertEqual(counts(HAMMING), (1, 0, 0, 7, 7, 0, 0, 1))
        # A word of two letters 2 and 1 goes ahead of one of 1 and 2 only where it is less.
        self.assertEqual(least(((3, 1, 0), 1, 2, (0,))), (2, (1, 2)))
        self.assertEqual(least(((3, 1, 0), 1, 2, (1,))), (2, (1, 1)))
        self.assertEqual(least(FIFTEEN + (tuple(range(1, 15)),)), (15, (1,) * 15))

    def test_too_many(self):
        for wheel in ABOVE:
            for _ in range(2):
                for asked in (least, counts):
                    with self.assertRaises(TooMany):
                        asked(wheel)
                self.assertEqual(counts(HAMMING), (1, 0, 0, 7, 7, 0, 0, 1))

    def test_the_same_is_told_again(self):
        for wheel in JUST[:1] + plainwheels.wheels(*NINE):
            if how_many(wheel) <= 4096:
                self.assertEqual(least(wheel), least(wheel))
                self.assertEqual(counts(wheel), counts(wheel))

    def test_the_least_is_no_less_than_a_taken_paper_tells(self):
        for base in SMALL:
            n = plainwheels.length(base[0], base[2])
            for wheel in plainwheels.wheels(*base):
                if len(wheel[3]) == n:
                    continue
                many = least(wheel)[0]
                for paper in plainmending.row_papers(wheel):
                    self.assertGreaterEqual(many, paper[2] + 1, (wheel, paper))
                if n <= 5:
                    for paper in itertools.product(range(n), range(1, n + 1), range(1, n + 1), range(1, n + 1),
                                                   range(n + 1)):
                        if plainwheels.shows_wide(wheel, *paper):
                            self.assertGreaterEqual(many, paper[2] + 1 + paper[4], (wheel, paper))

    def test_two_unlike_words_are_unlike_at_as_many_places_as_the_least(self):
        for wheel in [HAMMING, ((2, 4, 3), 2, 8, (1, 4)), ((7, 1, 3), 1, 2, (0,)), ((5, 1, 0), 1, 3, (1, 2))]:
            every = plainwheels.words(wheel)
            found = min(plainmending.unlike(a, b) for a, b in itertools.combinations(every, 2))
            self.assertEqual(least(wheel)[0], found)


class WideCounts(unittest.TestCase):
    def written_out(self, q, n, many):
        told = [1]
        for w in range(1, n + 1):
            if w <= many:
                told.append(0)
            else:
                told.append(math.comb(n, w) * sum((-1) ** j * math.comb(w, j) * (q ** (w - many - j) - 1)
                                                  for j in range(w - many)))
        return tuple(told)

    def test_each_many_from_nought_to_n(self):
        for q in (2, 3, 4, 5, 7, 8, 9, 16, 61, 64):
            for n in range(11):
                for many in range(n + 1):
                    told = wide_counts(q, n, many)
                    self.assertTrue(plainly.is_numbers(told))
                    self.assertEqual(told, self.written_out(q, n, many), (q, n, many))
                    self.assertEqual(wide_counts(q, n, many), told)

    def test_long_ones(self):
        for q, n in [(64, 63), (2, 63), (61, 60), (49, 48), (6, 70)]:
            for many in (0, 1, 2, n // 2, n - 1, n):
                self.assertEqual(wide_counts(q, n, many), self.written_out(q, n, many), (q, n, many))
                self.assertEqual(sum(wide_counts(q, n, many)), q ** (n - many))

    def test_edges(self):
        self.assertEqual(wide_counts(2, 0, 0), (1,))
        self.assertEqual(wide_counts(64, 0, 0), (1,))
        self.assertEqual(wide_counts(2, 1, 0), (1, 1))
        self.assertEqual(wide_counts(5, 1, 0), (1, 4))
        self.assertEqual(wide_counts(5, 1, 1), (1, 0))
        self.assertEqual(wide_counts(8, 7, 7), (1,) + (0,) * 7)
        self.assertEqual(wide_counts(8, 7, 6), (1,) + (0,) * 6 + (7,))
        self.assertEqual(wide_counts(8, 7, 3), (1, 0, 0, 0, 245, 588, 1666, 1596))
        # As the sum is written, also where no wheel is of these numbers.
        self.assertEqual(wide_counts(2, 4, 2), (1, 0, 0, 4, -1))

    def test_where_few_is_m_and_the_marks_are_just_those_of_a_row_paper(self):
        for field, root in [((2, 1, 0), 1), ((3, 1, 0), 2), ((2, 2, 3), 2), ((5, 1, 0), 3), ((7, 1, 0), 3), ((2, 3, 3), 5),
                            ((3, 2, 2), 3), ((2, 4, 3), 8), ((2, 4, 3), 2), ((13, 1, 0), 2)]:
            m = field[1]
            q = field[0] ** m
            n = plainwheels.length(field, root)
            steps = [step for step in range(1, n + 1) if math.gcd(step, n) == 1]
            for many in range(n + 1):
                if q ** (n - many) > 4096:
                    continue
                # The longest are asked of few papers alone.
                papers = list(itertools.product(range(n), steps))
                few = 3 if q ** (n - many) > 300 else 8
                for first, step in plainmending.some(papers, few):
                    marks = tuple(sorted((first + k * step) % n for k in range(many)))
                    self.assertEqual(wide_counts(q, n, many), counts((field, m, root, marks)), (field, marks))


if __name__ == "__main__":
    unittest.main()
