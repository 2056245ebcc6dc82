import unittest

import plainly
import plainmending
import plainwheels
from plainly import table
from plainwheels import EIGHT, FIFTEEN, NINE, SIX, SMALL

from roundwords.rows import value
from roundwords.summing import sums

HAMMING = ((2, 3, 3), 1, 2, (1, 2, 4))


class Sums(unittest.TestCase):
    def check(self, wheel, paper, got):
        told = sums(wheel, paper, got)
        self.assertTrue(plainly.is_numbers(told))
        self.assertEqual(len(told), paper[2])
        self.assertEqual(told, plainmending.sums(wheel, paper, got), (wheel, paper, got))
        self.assertEqual(sums(wheel, paper, got), told)

    def test_each_row_paper(self):
        draw = plainmending.drawer(1)
        for base in SMALL + [SIX, EIGHT]:
            own = table(base[0]).letters(base[1])
            n = plainwheels.length(base[0], base[2])
            for wheel in plainmending.some(plainwheels.wheels(*base), 9):
                for paper in plainmending.some(plainmending.row_papers(wheel), 60):
                    self.check(wheel, paper, plainmending.drawn(draw, own, n))

    def test_longer_ones(self):
        draw = plainmending.drawer(2)
        for base in [NINE, FIFTEEN, ((2, 4, 3), 4, 9)]:
            own = table(base[0]).letters(base[1])
            n = plainwheels.length(base[0], base[2])
            for marks in [(), tuple(range(n)), tuple(range(0, n, 3))]:
                wheel = base + (marks,)
                for paper in plainmending.some(plainmending.row_papers(wheel), 25):
                    self.check(wheel, paper, plainmending.drawn(draw, own, n))

    def test_against_value(self):
        field = (2, 3, 3)
        whole = (field, 1, 2, tuple(range(7)))
        for got in plainwheels.all_noughts(field, 1, 2):
            for first, step, many in [(0, 1, 7), (3, 2, 4), (6, 6, 3)]:
                roots = [table(field).power(2, first + k * step) for k in range(many)]
                self.assertEqual(sums(whole, (first, step, many), got), tuple(value(field, got, one) for one in roots))

    def test_no_sums(self):
        for base in SMALL + [SIX, FIFTEEN]:
            n = plainwheels.length(base[0], base[2])
            for wheel in (base + ((),), base + (tuple(range(n)),)):
                for paper in plainmending.row_papers(base + ((),))[::7]:
                    self.assertEqual(sums(wheel, paper, (1,) * n), ())

    def test_of_words_all_are_nought_and_of_others_not_where_the_paper_is_all_marks(self):
        wheel = ((7, 1, 3), 1, 2, (0, 2))
        every = set(plainwheels.words(wheel))
        for got in plainwheels.all_noughts(*wheel[:3]):
            self.assertIs(sums(wheel, (0, 2, 2), got) == (0, 0), got in every)

    def test_by_hand(self):
        self.assertEqual(sums(HAMMING, (1, 1, 2), (0,) * 7), (0, 0))
        self.assertEqual(sums(HAMMING, (1, 1, 2), (0, 1, 0, 0, 0, 0, 0)), (2, 4))
        self.assertEqual(sums(HAMMING, (2, 1, 1), (0, 1, 0, 0, 0, 0, 0)), (4,))
        self.assertEqual(sums(HAMMING, (4, 4, 2), (0, 1, 0, 0, 0, 0, 0)), (6, 2))
        self.assertEqual(sums(HAMMING, (4, 4, 0), (0, 1, 0, 0, 0, 0, 0)), ())
        self.assertEqual(sums(((7, 1, 0), 1, 3, (0, 1)), (0, 1, 2), (1, 2, 0, 0, 0, 0)), (3, 0))


if __name__ == "__main__":
    unittest.main()
