import itertools
import unittest

import plainly
import plainmending
from plainly import table

from roundwords.turning import round_product, turned, turned_back


def roots():
    """(field, root) for all sizes of fields and all rounds, the least and the greatest root of each."""
    found = []
    for p, m in plainly.SIZES:
        field = plainly.least_field(p, m)
        by_round = {}
        for one in range(1, p ** m):
            by_round.setdefault(table(field).round(one), []).append(one)
        for ones in by_round.values():
            found += [(field, one) for one in sorted({ones[0], ones[-1]})]
    return found + [((2, 4, 9), 3), ((7, 1, 3), 2), ((2, 4, 9), 2), ((3, 2, 7), 4)]


ROOTS = roots()


def length(field, root):
    return table(field).round(root)


def values(field, root, row):
    return tuple(plainmending.value(field, root, row, i) for i in range(len(row)))


def round_sum(field, one, other):
    """The sum as it is written out."""
    known = table(field)
    n = len(one)
    found = []
    for k in range(n):
        total = 0
        for i, j in itertools.product(range(n), repeat=2):
            if (i + j) % n == k:
                total = known.sums[total][known.products[one[i]][other[j]]]
        found.append(total)
    return tuple(found)


def some_rows(field, n, many, draw):
    """All rows where they are few; else noughts, ones, each thing alone at some place, and drawn ones."""
    size = field[0] ** field[1]
    if size ** n <= many:
        return list(itertools.product(range(size), repeat=n))
    edges = [(0,) * n, (1,) * n, (size - 1,) * n, (1,) + (0,) * (n - 1), (0,) * (n - 1) + (size - 1,)]
    return edges + [plainmending.drawn(draw, range(size), n) for _ in range(2)]


class Turned(unittest.TestCase):
    def test_the_fields_are_fields(self):
        for field, root in ROOTS:
            self.assertFalse(field[1] > 1 and plainly.parts_nought(field), field)
        self.assertIn(1, {length(*pair) for pair in ROOTS})
        self.assertIn(63, {length(*pair) for pair in ROOTS})

    def test_values_at_all_powers(self):
        draw = plainmending.drawer(41)
        for field, root in ROOTS:
            n = length(field, root)
            for row in plainmending.some(some_rows(field, n, 300, draw), 12 if n < 20 else 6):
                told = turned(field, root, row)
                self.assertTrue(plainly.is_numbers(told))
                self.assertEqual(told, values(field, root, row), (field, root, row))

    def test_each_behind_the_other_is_as_it_was(self):
        draw = plainmending.drawer(42)
        for field, root in ROOTS:
            n = length(field, root)
            for row in plainmending.some(some_rows(field, n, 300, draw), 30 if n < 10 else 7 if n < 20 else 3):
                told = turned_back(field, root, row)
                self.assertTrue(plainly.is_numbers(told))
                self.assertEqual(values(field, root, told), row, (field, root))
                self.assertEqual(turned(field, root, told), row)
                self.assertEqual(turned_back(field, root, turned(field, root, row)), row)

    def test_all_rows_of_small_fields_are_met_once(self):
        for field, root in [((2, 2, 3), 2), ((2, 2, 3), 3), ((5, 1, 0), 3), ((7, 1, 3), 2), ((7, 1, 3), 6), ((3, 2, 2), 3)]:
            n = length(field, root)
            every = list(itertools.product(range(field[0] ** field[1]), repeat=n))[:2500]
            self.assertEqual(len({turned(field, root, row) for row in every}), len(every))
            for row in every[::7]:
                self.assertEqual(turned_back(field, root, turned(field, root, row)), row)
                self.assertEqual(turned(field, root, turned_back(field, root, row)), row)

    def test_the_same_again(self):
        row = (1, 0, 5, 3, 7, 2, 2)
        for _ in range(2):
            self.assertEqual(turned((2, 3, 3), 2, row), values((2, 3, 3), 2, row))
            self.assertEqual(turned_back((2, 3, 3), 2, turned((2, 3, 3), 2, row)), row)
        self.assertEqual(row, (1, 0, 5, 3, 7, 2, 2))

    def test_by_hand(self):
        self.assertEqual(turned((7, 1, 0), 1, (5,)), (5,))
        self.assertEqual(turned_back((7, 1, 0), 1, (5,)), (5,))
        self.assertEqual(turned((7, 1, 0), 6, (5, 3)), (1, 2))
        self.assertEqual(turned_back((7, 1, 0), 6, (1, 2)), (5, 3))
        self.assertEqual(turned((2, 3, 3), 2, (0, 1, 0, 0, 0, 0, 0)), (1, 2, 4, 3, 6, 7, 5))
        self.assertEqual(turned_back((2, 3, 3), 2, (0, 1, 1, 0, 1, 0, 0)), (1, 1, 1, 0, 1, 0, 0))


class RoundProduct(unittest.TestCase):
    def test_the_sum_as_it_is_written(self):
        draw = plainmending.drawer(43)
        for field, root in ROOTS:
            n = length(field, root)
            if n > 20:
                continue
            for one in plainmending.some(some_rows(field, n, 100, draw), 5):
                for other in plainmending.some(some_rows(field, n, 100, draw), 5):
                    told = round_product(field, one, other)
                    self.assertTrue(plainly.is_numbers(told))
                    self.assertEqual(told, round_sum(field, one, other), (field, one, other))
                    self.assertEqual(round_product(field, one, other), told)

    def test_long_ones(self):
        draw = plainmending.drawer(44)
        for field, n in [((2, 6, 3), 63), ((61, 1, 0), 60), ((7, 2, 3), 48), ((2, 5, 5), 31)]:
            size = field[0] ** field[1]
            one, other = (plainmending.drawn(draw, range(size), n) for _ in range(2))
            self.assertEqual(round_product(field, one, other), round_sum(field, one, other))

    def test_all_of_two_and_of_three(self):
        for field, n in [((3, 1, 0), 2), ((2, 1, 0), 1), ((2, 2, 3), 1), ((2, 2, 3), 3)]:
            every = list(itertools.product(range(field[0] ** field[1]), repeat=n))
            for one, other in itertools.product(plainmending.some(every, 20), plainmending.some(every, 64)):
                self.assertEqual(round_product(field, one, other), round_sum(field, one, other))

    def test_one_leaves_all_and_the_next_turns_round(self):
        row = (1, 0, 5, 3, 7, 2, 2)
        self.assertEqual(round_product((2, 3, 3), (1, 0, 0, 0, 0, 0, 0), row), row)
        self.assertEqual(round_product((2, 3, 3), row, (0, 1, 0, 0, 0, 0, 0)), (2, 1, 0, 5, 3, 7, 2))
        self.assertEqual(round_product((2, 3, 3), (0,) * 7, row), (0,) * 7)
        self.assertEqual(round_product((7, 1, 0), (2, 3), (4, 5)), (2, 1))

    def test_turned_it_is_the_product_place_by_place(self):
        draw = plainmending.drawer(45)
        for field, root in ROOTS:
            n = length(field, root)
            known = table(field)
            size = field[0] ** field[1]
            for _ in range(4 if n < 12 else 1):
                one, other = (plainmending.drawn(draw, range(size), n) for _ in range(2))
                place_by_place = tuple(known.products[a][b] for a, b
                                       in zip(turned(field, root, one), turned(field, root, other)))
                self.assertEqual(turned(field, root, round_product(field, one, other)), place_by_place, (field, root))


if __name__ == "__main__":
    unittest.main()
