import itertools
import math
import unittest

import plainly
import plainmending
import plainwheels
from plainly import table
from plainwheels import EIGHT, FIFTEEN, GREAT, NINE, SIX, SMALL

from roundwords.facing import facing, facing_counts, product
from roundwords.leasts import counts
from roundwords.words import how_many

HAMMING = ((2, 3, 3), 1, 2, (1, 2, 4))


def plain_product(known, one, other):
    total = 0
    for a, b in zip(one, other):
        total = known.sums[total][known.products[a][b]]
    return total


def written_counts(q, given):
    """The sum as it is written out."""
    n = len(given) - 1
    found = []
    for w in range(n + 1):
        total = 0
        for v in range(n + 1):
            K = sum((-1) ** s * (q - 1) ** (w - s) * math.comb(v, s) * math.comb(n - v, w - s) for s in range(w + 1))
            total += given[v] * K
        assert total % sum(given) == 0
        found.append(total // sum(given))
    return tuple(found)


def all_counts(q, n):
    """Those of all tuples of n letters."""
    return tuple(math.comb(n, w) * (q - 1) ** w for w in range(n + 1))


def alone_counts(n):
    return (1,) + (0,) * n


class Product(unittest.TestCase):
    def test_small_rows(self):
        for field in [(2, 1, 0), (3, 1, 0), (2, 2, 3), (5, 1, 0), (2, 3, 3), (3, 2, 2)]:
            known = table(field)
            for n in (0, 1, 2):
                every = list(itertools.product(range(field[0] ** field[1]), repeat=n))
                for one, other in itertools.product(plainmending.some(every, 30), repeat=2):
                    told = product(field, one, other)
                    self.assertIs(type(told), int)
                    self.assertEqual(told, plain_product(known, one, other), (field, one, other))

    def test_drawn_rows(self):
        draw = plainmending.drawer(61)
        for p, m in plainly.SIZES:
            field = plainly.least_field(p, m)
            for n in (1, 3, 7, 63):
                one, other = (plainmending.drawn(draw, range(p ** m), n) for _ in range(2))
                told = product(field, one, other)
                self.assertEqual(told, plain_product(table(field), one, other))
                self.assertEqual(product(field, other, one), told)
                self.assertEqual(product(field, one, other), told)

    def test_by_hand(self):
        self.assertEqual(product((7, 1, 0), (1, 2, 3), (4, 5, 6)), 4)
        self.assertEqual(product((2, 3, 3), (2, 5), (4, 0)), 3)
        self.assertEqual(product((2, 3, 3), (), ()), 0)


class Facing(unittest.TestCase):
    def check_form(self, wheel):
        told = facing(wheel)
        self.assertTrue(type(told) is tuple and plainly.is_plain(told))
        self.assertTrue(plainwheels.is_wheel(told), wheel)
        self.assertEqual(told[:3], wheel[:3])
        self.assertEqual(facing(wheel), told)
        self.assertEqual(facing(told), wheel)
        n = plainwheels.length(wheel[0], wheel[2])
        self.assertEqual(len(told[3]), n - len(wheel[3]))
        return told

    def base_words(self, wheel):
        """Words of which all others are sums of letters times them: the rounds of the maker."""
        field, _, root, marks = wheel
        n = plainwheels.length(field, root)
        row = plainwheels.maker(field, root, marks)
        return [(0,) * by + row + (0,) * (n - len(row) - by) for by in range(n - len(marks))]

    def test_the_words_are_just_those_whose_products_are_nought(self):
        for base in SMALL:
            known = table(base[0])
            every = list(plainwheels.all_noughts(*base))
            for wheel in plainmending.some(plainwheels.wheels(*base), 10):
                told = self.check_form(wheel)
                own = plainwheels.words(wheel)
                if len(every) * len(own) > 70000:
                    own = self.base_words(wheel)
                asked = tuple(row for row in every if all(plain_product(known, row, word) == 0 for word in own))
                self.assertEqual(plainwheels.words(told), asked, wheel)

    def test_eight_and_nine_places(self):
        for base in (EIGHT, NINE):
            known = table(base[0])
            every = list(plainwheels.all_noughts(*base))
            for wheel in plainmending.some(plainwheels.wheels(*base), 8):
                told = self.check_form(wheel)
                own = self.base_words(wheel)
                asked = tuple(row for row in every if all(plain_product(known, row, word) == 0 for word in own))
                self.assertEqual(plainwheels.words(told), asked, wheel)

    def test_all_wheels_of_longer_roots(self):
        for base in (SIX, EIGHT, NINE, FIFTEEN):
            for wheel in plainwheels.wheels(*base):
                told = self.check_form(wheel)
                for one, other in itertools.product(self.base_words(wheel)[:3], self.base_words(told)[-3:]):
                    self.assertEqual(product(base[0], one, other), 0, wheel)

    def test_long_ones(self):
        draw = plainmending.drawer(62)
        for wheel, _ in plainmending.LONG:
            told = self.check_form(wheel)
            for _ in range(5):
                one, other = plainmending.drawn_word(draw, wheel), plainmending.drawn_word(draw, told)
                self.assertEqual(product(wheel[0], one, other), 0, wheel)

    def test_no_marks_and_all_marks(self):
        for base in SMALL + [SIX, EIGHT, NINE, FIFTEEN, GREAT, ((2, 6, 3), 6, 2), ((61, 1, 0), 1, 2)]:
            n = plainwheels.length(base[0], base[2])
            self.assertEqual(facing(base + ((),)), base + (tuple(range(n)),))
            self.assertEqual(facing(base + (tuple(range(n)),)), base + ((),))

    def test_by_hand(self):
        self.assertEqual(facing(HAMMING), HAMMING[:3] + ((0, 1, 2, 4),))
        self.assertEqual(facing(HAMMING[:3] + ((0,),)), HAMMING[:3] + ((1, 2, 3, 4, 5, 6),))
        self.assertEqual(facing(((7, 1, 0), 1, 3, (1, 2))), ((7, 1, 0), 1, 3, (0, 1, 2, 3)))


class FacingCounts(unittest.TestCase):
    def check(self, wheel, own, other):
        q = wheel[0][0] ** wheel[1]
        told = facing_counts(q, own)
        self.assertTrue(plainly.is_numbers(told))
        self.assertEqual(told, other, wheel)
        self.assertEqual(told, written_counts(q, own), wheel)
        self.assertEqual(facing_counts(q, own), told)
        self.assertEqual(facing_counts(q, told), own)

    def test_against_counts_of_the_facing_wheel(self):
        for base in SMALL + [NINE]:
            for wheel in plainmending.some(plainwheels.wheels(*base), 14):
                self.check(wheel, counts(wheel), counts(facing(wheel)))

    def test_fifteen_places(self):
        checked = 0
        for wheel in plainwheels.wheels(*FIFTEEN):
            if 300 < how_many(wheel) <= 1024 and how_many(facing(wheel)) <= 1024:
                checked += 1
                self.check(wheel, counts(wheel), counts(facing(wheel)))
        self.assertGreater(checked, 2)

    def test_no_marks_and_all_marks(self):
        for base in SMALL + [SIX, EIGHT, NINE, FIFTEEN, GREAT, ((2, 6, 3), 6, 2), ((61, 1, 0), 1, 2)]:
            n = plainwheels.length(base[0], base[2])
            q = base[0][0] ** base[1]
            self.assertEqual(counts(base + (tuple(range(n)),)), alone_counts(n))
            self.check(base + (tuple(range(n)),), alone_counts(n), all_counts(q, n))
            self.check(base + ((),), all_counts(q, n), alone_counts(n))

    def test_long_ones_as_the_sum_is_written(self):
        for wheel in [GREAT + (tuple(i for i in range(63) if i not in (1, 2, 4, 8, 16, 32)),),
                      ((2, 6, 3), 6, 2, tuple(range(62))), ((61, 1, 0), 1, 2, tuple(range(1, 60)))]:
            q = wheel[0][0] ** wheel[1]
            own = counts(wheel)
            told = facing_counts(q, own)
            self.assertEqual(told, written_counts(q, own))
            self.assertEqual(sum(told), how_many(facing(wheel)))

    def test_by_hand(self):
        self.assertEqual(facing_counts(2, (1, 0, 0, 7, 7, 0, 0, 1)), (1, 0, 0, 0, 7, 0, 0, 0))
        self.assertEqual(facing_counts(2, (1, 0, 0, 0, 7, 0, 0, 0)), (1, 0, 0, 7, 7, 0, 0, 1))
        self.assertEqual(facing_counts(7, (1, 6)), (1, 0))
        self.assertEqual(facing_counts(7, (1, 0)), (1, 6))


if __name__ == "__main__":
    unittest.main()
