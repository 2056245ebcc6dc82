import itertools
import unittest

import plainly
import plainmending
from plainly import table

from roundwords.nearing import nearing

# (field, so many sums): all sums of so many things are few enough to go through.
ALL_SUMS = [((2, 1, 0), 8), ((3, 1, 0), 5), ((2, 2, 3), 4), ((5, 1, 0), 4), ((2, 3, 3), 3), ((7, 1, 3), 3)]
DRAWN = [(2, 1, 0), (3, 1, 1), (2, 2, 3), (5, 1, 0), (7, 1, 3), (2, 3, 3), (3, 2, 2), (2, 4, 3), (2, 6, 3), (61, 1, 0)]


class Steps(unittest.TestCase):
    def check(self, field, sums):
        told = nearing(field, sums)
        self.assertEqual(told, plainmending.nearing(field, sums), (field, sums))
        self.assertTrue(type(told) is tuple and all(type(step) is tuple and len(step) == 3 for step in told))
        for gap, length, row in told:
            self.assertTrue(type(gap) is int and type(length) is int and plainly.is_numbers(row))
            self.assertEqual(row, plainly.trimmed(row))
        return told

    def test_all_sums_of_small_fields(self):
        for field, many in ALL_SUMS:
            for sums in itertools.product(range(field[0] ** field[1]), repeat=many):
                self.check(field, sums)

    def test_drawn_sums(self):
        draw = plainmending.drawer(3)
        for field in DRAWN:
            things = table(field).things
            for many in (1, 2, 5, 8, 13, 20):
                for _ in range(6):
                    self.check(field, plainmending.drawn(draw, things, many))

    def test_drawn_sums_with_many_noughts(self):
        draw = plainmending.drawer(4)
        for field in DRAWN:
            things = table(field).things
            for many in (6, 11, 17):
                for _ in range(8):
                    full = plainmending.drawn(draw, things, many)
                    self.check(field, tuple(thing if draw.randrange(3) == 0 else 0 for thing in full))

    def test_sums_told_on_by_a_row(self):
        draw = plainmending.drawer(5)
        for field in DRAWN:
            known = table(field)
            for long in (1, 2, 3, 5):
                row = (1,) + plainmending.drawn(draw, known.things, long)
                sums = list(plainmending.drawn(draw, known.things, long))
                while len(sums) < 4 * long + 3:
                    total = 0
                    for i in range(1, long + 1):
                        total = known.sums[total][known.products[row[i]][sums[-i]]]
                    sums.append(known.negative(total))
                told = self.check(field, tuple(sums))
                self.assertLessEqual(told[-1][1], long)
                self.assertEqual([gap for gap, _, _ in told[2 * long:]], [0] * (2 * long + 3))

    def test_a_start_of_the_sums_tells_a_start_of_the_steps(self):
        draw = plainmending.drawer(6)
        for field in DRAWN:
            sums = plainmending.drawn(draw, table(field).things, 9)
            told = nearing(field, sums)
            for many in range(10):
                self.assertEqual(nearing(field, sums[:many]), told[:many])
            self.assertEqual(nearing(field, sums), told)

    def test_edges(self):
        for field in DRAWN:
            self.assertEqual(nearing(field, ()), ())
            for many in (1, 2, 7, 63):
                self.assertEqual(nearing(field, (0,) * many), ((0, 0, (1,)),) * many)
            one = table(field).negative(1)
            self.assertEqual(nearing(field, (1,)), ((1, 1, (1, one)),))
            self.assertEqual(nearing(field, (0, 0, 1)), ((0, 0, (1,)),) * 2 + ((1, 3, (1, 0, 0, one)),))

    def test_by_hand(self):
        self.assertEqual(nearing((2, 3, 3), (2, 4)), ((2, 1, (1, 2)), (0, 1, (1, 2))))
        self.assertEqual(nearing((2, 3, 3), (2, 3)), ((2, 1, (1, 2)), (7, 1, (1, 4))))
        self.assertEqual(nearing((7, 1, 0), (3, 6, 5)), ((3, 1, (1, 4)), (4, 1, (1, 5)), (0, 1, (1, 5))))
        # The row is shorter than its length tells where the last sum is nought.
        self.assertEqual(nearing((2, 1, 0), (1, 0)), ((1, 1, (1, 1)), (1, 1, (1,))))


class Least(unittest.TestCase):
    def check(self, field, sums):
        for many, (gap, length, row) in enumerate(nearing(field, sums), 1):
            self.assertEqual(row[0], 1)
            self.assertLessEqual(len(row), length + 1)
            self.assertIs(plainmending.tells_on(field, row, length, sums[:many]), True)
            self.assertEqual(length, plainmending.least_length(field, sums[:many]), (field, sums[:many]))

    def test_all_sums_of_small_fields(self):
        for field, many in [((2, 1, 0), 7), ((3, 1, 0), 4), ((2, 2, 3), 3), ((5, 1, 0), 3)]:
            for sums in itertools.product(range(field[0] ** field[1]), repeat=many):
                self.check(field, sums)

    def test_drawn_sums(self):
        draw = plainmending.drawer(7)
        for field, many, often in [((2, 1, 0), 10, 30), ((3, 1, 0), 7, 15), ((2, 2, 3), 6, 8), ((7, 1, 0), 5, 6),
                                   ((2, 3, 3), 5, 6)]:
            for _ in range(often):
                self.check(field, plainmending.drawn(draw, table(field).things, many))


if __name__ == "__main__":
    unittest.main()
