import itertools
import unittest

import plainly
from plainly import all_rows, least_field, table, trimmed

from roundwords.errors import ByNought
from roundwords.rows import common, row_less, row_over, row_sum, row_times, value

TWO = (2, 1, 0)
FIELDS = [(TWO, 5), ((3, 1, 1), 3), ((2, 2, 3), 3), ((5, 1, 0), 2), ((2, 3, 3), 2), ((3, 2, 2), 2)]
LONG = [
    ((2, 6, 3), (1, 45, 0, 63, 7, 2), (9, 0, 33)),
    ((2, 6, 3), (0, 0, 5), (17, 1, 1, 60)),
    ((7, 2, 3), (48, 0, 3, 31, 1), (0, 12, 40)),
    ((3, 3, 4), (26, 13, 1, 0, 2, 9, 11), (5, 5, 5)),
    ((61, 1, 0), (60, 1, 0, 30, 59), (1, 2, 3)),
    ((2, 6, 3), (9, 0, 33), (9, 0, 33)),
]


def pairs():
    """(field, its table, one, other), over all short rows of small fields and some long ones."""
    for field, longest in FIELDS:
        for one, other in itertools.product(all_rows(field[0] ** field[1], longest), repeat=2):
            yield field, table(field), one, other
    for field, one, other in LONG:
        yield field, table(field), one, other
        yield field, table(field), other, one


class Sums(unittest.TestCase):
    def test_sum_difference_and_product(self):
        for field, known, one, other in pairs():
            told = row_sum(field, one, other)
            self.assertEqual(told, known.row_sum(one, other), (field, one, other))
            less = row_less(field, one, other)
            self.assertEqual(less, known.row_sum(one, known.row_negative(other)), (field, one, other))
            product = row_times(field, one, other)
            self.assertEqual(product, known.row_times(one, other), (field, one, other))
            for row in (told, less, product):
                self.assertTrue(plainly.is_numbers(row))
                self.assertTrue(row == () or row[-1] != 0, (field, one, other, row))

    def test_with_nought(self):
        for field, longest in FIELDS:
            for row in all_rows(field[0] ** field[1], longest):
                self.assertEqual(row_sum(field, row, ()), row)
                self.assertEqual(row_sum(field, (), row), row)
                self.assertEqual(row_less(field, row, ()), row)
                self.assertEqual(row_less(field, row, row), ())
                self.assertEqual(row_times(field, row, ()), ())
                self.assertEqual(row_times(field, (), row), ())
                self.assertEqual(row_times(field, row, (1,)), row)

    def test_last_things_that_go_away(self):
        self.assertEqual(row_sum(TWO, (1, 0, 1, 1), (0, 0, 1, 1)), (1,))
        self.assertEqual(row_sum(TWO, (1, 1), (1, 1)), ())
        self.assertEqual(row_sum((3, 1, 0), (1, 2), (1, 1)), (2,))
        self.assertEqual(row_less((3, 1, 0), (1, 2, 2), (0, 2, 2)), (1,))
        self.assertEqual(row_less((3, 1, 0), (), (1, 2)), (2, 1))
        self.assertEqual(row_less((3, 1, 0), (1,), (1, 2)), (0, 1))

    def test_products_by_hand(self):
        self.assertEqual(row_times(TWO, (1, 1), (1, 1)), (1, 0, 1))
        self.assertEqual(row_times((2, 3, 3), (2, 1), (4, 1)), (3, 6, 1))
        self.assertEqual(row_times((3, 1, 0), (2,), (0, 2)), (0, 1))


class Over(unittest.TestCase):
    def test_quotient_and_rest(self):
        for field, known, one, other in pairs():
            if other == ():
                continue
            told = row_over(field, one, other)
            self.assertTrue(type(told) is tuple and len(told) == 2)
            quotient, rest = told
            for row in told:
                self.assertTrue(plainly.is_numbers(row))
                self.assertTrue(row == () or row[-1] != 0)
            self.assertLess(len(rest), len(other))
            self.assertEqual(known.row_sum(known.row_times(other, quotient), rest), one, (field, one, other))

    def test_products_leave_no_rest(self):
        for field, known, one, other in pairs():
            if other != ():
                self.assertEqual(row_over(field, known.row_times(one, other), other), (one, ()))

    def test_shorter_by_longer(self):
        self.assertEqual(row_over(TWO, (1, 1), (1, 0, 1)), ((), (1, 1)))
        self.assertEqual(row_over(TWO, (), (1, 0, 1)), ((), ()))
        self.assertEqual(row_over((2, 3, 3), (7,), (5,)), ((5,), ()))
        self.assertEqual(row_over((2, 3, 3), (3, 6, 1), (2, 1)), ((4, 1), ()))
        self.assertEqual(row_over((2, 3, 3), (2, 6, 1), (2, 1)), ((4, 1), (1,)))

    def test_by_nought(self):
        for field, one, other in LONG:
            for row in ((), (1,), one, other):
                with self.assertRaises(ByNought):
                    row_over(field, row, ())
            self.assertEqual(row_over(field, one, (1,)), (one, ()))


class Common(unittest.TestCase):
    def test_the_longest_that_parts_both(self):
        for field, longest in [(TWO, 4), ((3, 1, 1), 3), ((2, 2, 3), 3), ((5, 1, 0), 2)]:
            known = table(field)
            rows = all_rows(known.size, longest)
            monic = [row for row in rows if row and row[-1] == 1]
            multiples = {row: {known.row_times(row, by) for by in rows if len(row) + len(by) <= longest + 1}
                         for row in monic}
            for one, other in itertools.product(rows, repeat=2):
                told = common(field, one, other)
                self.assertTrue(plainly.is_numbers(told))
                if one == () and other == ():
                    self.assertEqual(told, ())
                    continue
                both = [row for row in monic if one in multiples[row] and other in multiples[row]]
                most = max(len(row) for row in both)
                self.assertEqual([told], [row for row in both if len(row) == most], (field, one, other))

    def test_of_nought_and_a_row(self):
        for field, one, other in LONG:
            known = table(field)
            for row in (one, other, (3,), (0, 2)):
                monic = next(found for found in (known.row_times(row, (thing,)) for thing in known.things[1:])
                             if found[-1] == 1)
                self.assertEqual(common(field, row, ()), monic)
                self.assertEqual(common(field, (), row), monic)
                self.assertEqual(common(field, row, row), monic)
            self.assertEqual(common(field, (), ()), ())

    def test_a_long_row_in_common(self):
        field = least_field(2, 6)
        known = table(field)
        shared = (1,)
        for root in (1, 2, 9, 33, 60):
            shared = known.row_times(shared, (root, 1))
        one = known.row_times(shared, known.row_times((7, 1), (5, 5)))
        other = known.row_times(shared, known.row_times((8, 3), (0, 1)))
        self.assertEqual(common(field, one, other), shared)
        self.assertEqual(common(field, other, one), shared)
        self.assertEqual(common(field, one, shared), shared)

    def test_by_hand(self):
        self.assertEqual(common(TWO, (1, 0, 1), (1, 1)), (1, 1))
        self.assertEqual(common(TWO, (1, 1, 1), (1, 1)), (1,))
        self.assertEqual(common((7, 1, 3), (2, 4), (1, 2)), (4, 1))
        self.assertEqual(common((7, 1, 3), (5,), (3,)), (1,))


class Values(unittest.TestCase):
    def test_of_all_short_tuples(self):
        for field, longest in FIELDS:
            known = table(field)
            for many in range(longest + 1):
                for row in itertools.product(known.things, repeat=many):
                    for one in known.things:
                        self.assertEqual(value(field, row, one), known.value(row, one), (field, row, one))

    def test_of_long_ones(self):
        for field, one, other in LONG:
            known = table(field)
            for row in (one, other, one + (0, 0), one + other):
                for at in known.things:
                    told = value(field, row, at)
                    self.assertEqual(told, known.value(row, at), (field, row, at))
                    self.assertIs(type(told), int)

    def test_edges(self):
        self.assertEqual(value((2, 3, 3), (), 5), 0)
        self.assertEqual(value((2, 3, 3), (), 0), 0)
        self.assertEqual(value((2, 3, 3), (6, 7), 0), 6)
        self.assertEqual(value((2, 3, 3), (6, 1, 0, 0), 3), value((2, 3, 3), (6, 1), 3))
        self.assertEqual(value((2, 3, 3), (0, 0, 0), 3), 0)
        self.assertEqual(value((2, 3, 3), (4, 0, 1), 2), 0)


class Again(unittest.TestCase):
    def test_the_same_is_told_again(self):
        for field, one, other in LONG:
            for deed in (row_sum, row_less, row_times, row_over, common):
                told = deed(field, one, other)
                self.assertTrue(plainly.is_plain(told))
                self.assertEqual(deed(field, one, other), told)
            self.assertEqual(trimmed(one), one)
            self.assertEqual(value(field, one, 3), value(field, one, 3))

    def test_what_was_told_may_be_handed_in_again(self):
        field = (2, 6, 3)
        row = (1, 45, 2)
        for _ in range(5):
            row = row_times(field, row, row)
        self.assertEqual(len(row), 65)
        self.assertEqual(row_over(field, row, (1, 45, 2))[1], ())
        self.assertEqual(common(field, row, (1, 45, 2)), common(field, (), (1, 45, 2)))


if __name__ == "__main__":
    unittest.main()
