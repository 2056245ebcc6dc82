import itertools
import unittest

import plainly
import plainmending
import plainwheels
from plainly import table
from plainwheels import EIGHT, FIFTEEN, NINE, SIX, SMALL

from roundwords.errors import ByNought
from roundwords.worths import places, worths

HAMMING = ((2, 3, 3), 1, 2, (1, 2, 4))


def whole(base):
    """The wheel of all marks: each first, step and many makes a row paper of it."""
    return base + (tuple(range(plainwheels.length(base[0], base[2]))),)


class Places(unittest.TestCase):
    def check(self, wheel, paper, row):
        told = places(wheel, paper, row)
        self.assertTrue(plainly.is_numbers(told))
        self.assertEqual(told, plainmending.places(wheel, paper, row), (wheel, paper, row))
        self.assertEqual(places(wheel, paper, row), told)

    def test_all_short_rows(self):
        for base in SMALL:
            wheel = whole(base)
            size = base[0][0] ** base[0][1]
            rows = plainly.all_rows(size, 3 if size < 6 else 2)[1:]
            for paper in plainmending.some(plainmending.row_papers(wheel), 7):
                for row in plainmending.some(rows, 60):
                    self.check(wheel, paper, row)

    def test_drawn_rows(self):
        draw = plainmending.drawer(8)
        for base in SMALL + [SIX, EIGHT, NINE, FIFTEEN]:
            wheel = whole(base)
            for paper in plainmending.some(plainmending.row_papers(wheel), 8):
                for many in (1, 3, 6):
                    self.check(wheel, paper, plainmending.drawn(draw, table(base[0]).things, many) + (1,))

    def test_none_some_and_all(self):
        for base in SMALL + [SIX, EIGHT, NINE, FIFTEEN]:
            wheel = whole(base)
            n = plainwheels.length(base[0], base[2])
            known = table(base[0])
            for paper in plainmending.some(plainmending.row_papers(wheel), 8):
                self.assertEqual(places(wheel, paper, (1,)), ())
                self.assertEqual(places(wheel, paper, (0, 1)), ())
                self.assertEqual(places(wheel, paper, (known.negative(1),) + (0,) * (n - 1) + (1,)), tuple(range(n)))
                for chosen in ((0,), (n - 1,), tuple(range(0, n, 2)), tuple(range(1, n)), tuple(range(n))):
                    row = plainmending.locator(wheel, paper, chosen)
                    self.assertEqual(places(wheel, paper, row), chosen)
                    # A place told twice is told once.
                    self.assertEqual(places(wheel, paper, known.row_times(row, row)), chosen)

    def test_by_hand(self):
        self.assertEqual(places(HAMMING, (1, 1, 2), (1, 2)), (1,))
        self.assertEqual(places(HAMMING, (1, 2, 1), (1, 2)), (4,))
        self.assertEqual(places(HAMMING, (4, 1, 1), (1, 2)), (1,))
        self.assertEqual(places(HAMMING, (0, 1, 0), (1, 1)), (0,))
        self.assertEqual(places(HAMMING, (0, 1, 0), (3,)), ())


class Worths(unittest.TestCase):
    def check(self, wheel, paper, sums, row):
        asked = plainmending.worths(wheel, paper, sums, row)
        if asked is None:
            for _ in range(2):
                with self.assertRaises(ByNought):
                    worths(wheel, paper, sums, row)
            return False
        told = worths(wheel, paper, sums, row)
        self.assertTrue(plainly.is_numbers(told))
        self.assertEqual(told, asked, (wheel, paper, sums, row))
        self.assertEqual(worths(wheel, paper, sums, row), told)
        return True

    def test_by_the_rule(self):
        draw = plainmending.drawer(9)
        answered = refused = 0
        for base in SMALL + [SIX, EIGHT, NINE, FIFTEEN, ((2, 3, 3), 3, 5)]:
            wheel = whole(base)
            known = table(base[0])
            n = plainwheels.length(base[0], base[2])
            for paper in plainmending.some(plainmending.row_papers(wheel), 30):
                sums = plainmending.drawn(draw, known.things, paper[2])
                for many in (0, 1, 2, 4):
                    chosen = [draw.randrange(n) for _ in range(many)]
                    row = known.row_times(plainmending.locator(wheel, paper, chosen),
                                          (1 + draw.randrange(known.size - 1),))
                    if self.check(wheel, paper, sums, row):
                        answered += 1
                    else:
                        refused += 1
                row = plainmending.drawn(draw, known.things, 4) + (1,)
                self.check(wheel, paper, sums, row)
        self.assertGreater(answered, 500)
        self.assertGreater(refused, 200)

    def test_all_short_rows_and_sums(self):
        for wheel, paper in [(((2, 2, 3), 1, 2, (1, 2)), (1, 1, 2)), (((3, 1, 0), 1, 2, (0, 1)), (1, 1, 2)),
                             (((2, 2, 3), 2, 3, (0, 1)), (1, 2, 2)), (((5, 1, 0), 1, 3, (3,)), (3, 3, 1))]:
            size = wheel[0][0] ** wheel[0][1]
            for row in plainly.all_rows(size, 3)[1:]:
                for sums in itertools.product(range(size), repeat=paper[2]):
                    self.check(wheel, paper, sums, row)

    def test_faults_are_told_by_the_row_of_their_places(self):
        draw = plainmending.drawer(10)
        for base in [SIX, ((2, 3, 3), 3, 2), ((3, 2, 2), 2, 3), ((2, 4, 3), 4, 9), ((5, 1, 0), 1, 3)]:
            wheel = whole(base)
            n = plainwheels.length(base[0], base[2])
            known = table(base[0])
            for paper in plainmending.some(plainmending.row_papers(wheel), 50):
                chosen = sorted(draw.sample(range(n), draw.randrange(paper[2] + 1)))
                got = plainmending.spoilt(draw, known.things, (0,) * n, chosen)
                told = worths(wheel, paper, plainmending.sums(wheel, paper, got),
                              plainmending.locator(wheel, paper, chosen))
                self.assertEqual(told, tuple(got[k] for k in chosen), (wheel, paper, got))

    def test_refused_at_one_place_only(self):
        for base in SMALL + [SIX, FIFTEEN]:
            wheel = whole(base)
            known = table(base[0])
            n = plainwheels.length(base[0], base[2])
            if n < 3:
                continue
            for twice in range(n):
                for paper in [(0, 1, 2), (n - 1, n - 1, 3), (1, 1, 0)]:
                    others = [k for k in range(n) if k != twice][:2]
                    row = plainmending.locator(wheel, paper, [twice] + others)
                    sums = (1,) * paper[2]
                    self.assertEqual(len(worths(wheel, paper, sums, row)), 3)
                    again = known.row_times(row, plainmending.locator(wheel, paper, [twice]))
                    for _ in range(2):
                        with self.assertRaises(ByNought):
                            worths(wheel, paper, sums, again)

    def test_nought_in_the_slope_but_at_no_place_is_not_refused(self):
        for base in SMALL + [SIX, FIFTEEN]:
            wheel = whole(base)
            n = plainwheels.length(base[0], base[2])
            for paper in plainmending.some(plainmending.row_papers(wheel), 5):
                for row in ((1,), (base[0][0] ** base[0][1] - 1,), (0, 1)):
                    self.assertEqual(worths(wheel, paper, (0,) * paper[2], row), ())
                    self.assertEqual(worths(wheel, paper, (1,) * paper[2], row), ())
            self.assertEqual(worths(wheel, (0, 1, n), (0,) * n, plainmending.locator(wheel, (0, 1, n), [0])), (0,))
        # (1 + x + x ** 2) twice has the slope nought, and no place in the things of this field.
        self.assertEqual(worths(HAMMING, (1, 1, 2), (3, 5), (1, 0, 1, 0, 1)), ())

    def test_by_hand(self):
        self.assertEqual(worths(HAMMING, (1, 1, 2), (2, 4), (1, 2)), (1,))
        self.assertEqual(worths(HAMMING, (1, 1, 2), (7, 3), (1, 7)), (1,))
        self.assertEqual(worths(HAMMING, (1, 1, 2), (0, 0), (1, 7)), (0,))
        self.assertEqual(worths(HAMMING, (1, 1, 0), (), (1, 7)), (0,))
        with self.assertRaises(ByNought):
            worths(HAMMING, (1, 1, 2), (2, 4), (1, 0, 4))
        with self.assertRaises(ByNought):
            worths(HAMMING, (1, 1, 0), (), (1, 0, 1))


if __name__ == "__main__":
    unittest.main()
