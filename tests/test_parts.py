import itertools
import unittest

import plainly
import plainmending
import plainwheels
from plainly import table
from plainwheels import EIGHT, FIFTEEN, GREAT, NINE, SIX, SMALL

from roundwords.alls import all_wheels
from roundwords.parts import is_part, join, meet, part_rows, wheel_around
from roundwords.wheels import is_wheel

SEVEN = ((2, 3, 3), 1, 2)
# Roots of small fields with fewer letters and with more, too long or too many to go through their words.
ROOTS = [SIX, EIGHT, NINE, FIFTEEN, GREAT, ((2, 6, 3), 2, 2), ((2, 6, 3), 3, 2), ((2, 6, 3), 6, 2), ((2, 4, 3), 4, 9),
         ((2, 4, 3), 2, 2), ((3, 2, 2), 2, 4), ((7, 2, 3), 1, 8), ((7, 2, 3), 2, 8), ((61, 1, 0), 1, 2)]


def pairs(base, many):
    """Some pairs of wheels of a root, those with no marks and with all marks among them, and each with itself."""
    every = sorted(plainwheels.wheels(*base))
    n = plainwheels.length(base[0], base[2])
    ends = [base + ((),), base + (tuple(range(n)),)]
    chosen = plainmending.some(list(itertools.product(every, repeat=2)), many)
    chosen += [(wheel, wheel) for wheel in every]
    chosen += [pair for wheel in every for end in ends for pair in ((wheel, end), (end, wheel))]
    return sorted(set(chosen))


def sums(field, ones, others):
    known = table(field)
    return {tuple(known.sums[a][b] for a, b in zip(one, other)) for one in ones for other in others}


class Pairs(unittest.TestCase):
    def check_form(self, told, base):
        self.assertTrue(type(told) is tuple and plainly.is_plain(told))
        self.assertEqual(told[:3], base)
        self.assertTrue(plainwheels.is_wheel(told), told)

    def test_meet_has_the_words_of_both(self):
        for base in SMALL:
            for one, other in pairs(base, 60):
                told = meet(one, other)
                self.check_form(told, base)
                both = set(plainwheels.words(one)) & set(plainwheels.words(other))
                self.assertEqual(set(plainwheels.words(told)), both, (one, other))
                self.assertEqual(meet(one, other), told)
                self.assertEqual(meet(other, one), told)

    def test_join_has_the_sums_of_a_word_of_each(self):
        gone_through = 0
        for base in SMALL:
            for one, other in pairs(base, 40):
                told = join(one, other)
                self.check_form(told, base)
                ones, others = plainwheels.words(one), plainwheels.words(other)
                if len(ones) * len(others) <= 1200:
                    gone_through += 1
                    self.assertEqual(set(plainwheels.words(told)), sums(base[0], ones, others), (one, other))
                else:
                    # As many sums as there are pairs, each met as often as there are words of both.
                    both = set(ones) & set(others)
                    self.assertEqual(len(plainwheels.words(told)) * len(both), len(ones) * len(others))
                    self.assertLessEqual(set(ones) | set(others), set(plainwheels.words(told)))
                self.assertEqual(join(one, other), told)
                self.assertEqual(join(other, one), told)
        self.assertGreater(gone_through, 200)

    def test_is_part_by_the_words(self):
        for base in SMALL:
            for one, other in pairs(base, 80):
                asked = set(plainwheels.words(one)) <= set(plainwheels.words(other))
                self.assertIs(is_part(one, other), asked, (one, other))
                self.assertIs(is_part(one, other), asked)
            for one in plainwheels.wheels(*base):
                self.assertIs(is_part(one, one), True)

    def test_no_marks_and_all_marks(self):
        for base in SMALL + ROOTS:
            n = plainwheels.length(base[0], base[2])
            none, every = base + ((),), base + (tuple(range(n)),)
            ring = plainwheels.ring_sets(n, base[0][0] ** base[1])[-1]
            for wheel in (none, every, base + (ring,)):
                self.assertEqual(meet(wheel, none), wheel)
                self.assertEqual(meet(every, wheel), every)
                self.assertEqual(join(wheel, none), none)
                self.assertEqual(join(every, wheel), wheel)
                self.assertIs(is_part(wheel, none), True)
                self.assertIs(is_part(every, wheel), True)
                self.assertIs(is_part(none, wheel), wheel == none)
                self.assertIs(is_part(wheel, every), wheel == every)

    def test_longer_ones_by_their_marks(self):
        for base in (FIFTEEN, NINE, EIGHT, SIX):
            for one, other in itertools.product(plainmending.some(sorted(plainwheels.wheels(*base)), 14), repeat=2):
                either = tuple(sorted(set(one[3]) | set(other[3])))
                both = tuple(sorted(set(one[3]) & set(other[3])))
                self.assertEqual(meet(one, other), base + (either,))
                self.assertEqual(join(one, other), base + (both,))
                self.assertIs(is_part(one, other), set(other[3]) <= set(one[3]))

    def test_part_by_meet_and_join(self):
        for base in (EIGHT, FIFTEEN):
            for one, other in itertools.product(plainmending.some(all_wheels(*base), 12), repeat=2):
                self.assertIs(is_part(one, other), meet(one, other) == one)
                self.assertIs(is_part(one, other), join(one, other) == other)
                self.assertIs(is_part(meet(one, other), one) and is_part(other, join(one, other)), True)

    def test_by_hand(self):
        self.assertEqual(meet(SEVEN + ((0,),), SEVEN + ((1, 2, 4),)), SEVEN + ((0, 1, 2, 4),))
        self.assertEqual(meet(SEVEN + ((3, 5, 6),), SEVEN + ((1, 2, 4),)), SEVEN + ((1, 2, 3, 4, 5, 6),))
        self.assertEqual(join(SEVEN + ((0, 3, 5, 6),), SEVEN + ((0, 1, 2, 4),)), SEVEN + ((0,),))
        self.assertEqual(join(SEVEN + ((3, 5, 6),), SEVEN + ((0, 1, 2, 4),)), SEVEN + ((),))
        self.assertIs(is_part(SEVEN + ((0, 1, 2, 4),), SEVEN + ((1, 2, 4),)), True)
        self.assertIs(is_part(SEVEN + ((1, 2, 4),), SEVEN + ((0, 1, 2, 4),)), False)
        self.assertIs(is_part(SEVEN + ((1, 2, 4),), SEVEN + ((0,),)), False)


class PartRows(unittest.TestCase):
    def test_one_row_for_each_ring(self):
        for base in SMALL + ROOTS:
            field, few, root = base
            known = table(field)
            n = plainwheels.length(field, root)
            sets = plainwheels.ring_sets(n, field[0] ** few)
            told = part_rows(field, few, root)
            self.assertTrue(type(told) is tuple and all(plainly.is_numbers(row) for row in told))
            self.assertEqual(told, tuple(plainwheels.maker(field, root, ring) for ring in sets), base)
            own = known.letters(few)
            whole = (1,)
            for ring, row in zip(sets, told):
                self.assertEqual(len(row), len(ring) + 1)
                self.assertTrue(all(letter in own for letter in row), base)
                self.assertEqual(row[-1], 1)
                self.assertEqual(plainwheels.noughts(field, root, row), set(ring))
                whole = known.row_times(whole, row)
            self.assertEqual(whole, (known.negative(1),) + (0,) * (n - 1) + (1,), base)
            self.assertEqual(part_rows(field, few, root), told)

    def test_round_of_one(self):
        for p, m in plainly.SIZES:
            field = plainly.least_field(p, m)
            for few in [few for few in range(1, m + 1) if m % few == 0]:
                self.assertEqual(part_rows(field, few, 1), ((p - 1, 1),), field)

    def test_no_row_is_a_product_of_two_with_an_x_in_both(self):
        for base in SMALL + [EIGHT, NINE, FIFTEEN]:
            field, few, root = base
            known = table(field)
            own = known.letters(few)
            for row in part_rows(*base):
                for many in range(1, (len(row) - 1) // 2 + 1):
                    for low in itertools.product(own, repeat=many):
                        self.assertFalse(self.parts(known, low + (1,), row), (base, row, low))

    def parts(self, known, one, row):
        """Whether the row is a multiple of one, whose last thing is 1."""
        rest = list(row)
        while len(rest) >= len(one):
            last = rest[-1]
            for k, thing in enumerate(one):
                at = len(rest) - len(one) + k
                rest[at] = known.sums[rest[at]][known.negative(known.products[last][thing])]
            rest.pop()
        return not any(rest)

    def test_by_hand(self):
        self.assertEqual(part_rows(*SEVEN), ((1, 1), (1, 1, 0, 1), (1, 0, 1, 1)))
        self.assertEqual(part_rows((2, 3, 3), 3, 2), tuple((thing, 1) for thing in (1, 2, 4, 3, 6, 7, 5)))
        self.assertEqual(part_rows((3, 1, 0), 1, 2), ((2, 1), (1, 1)))


class WheelAround(unittest.TestCase):
    def check(self, base, rows):
        """Held against the words of all wheels of the root."""
        told = wheel_around(*base, rows)
        self.assertTrue(type(told) is tuple and plainly.is_plain(told))
        self.assertIs(is_wheel(told), True)
        self.assertEqual(told[:3], base)
        having = [wheel for wheel in plainwheels.wheels(*base)
                  if all(set(wheel[3]) <= plainwheels.all_noughts(*base)[row] for row in rows)]
        fewest = min(len(plainwheels.words(wheel)) for wheel in having)
        least = [wheel for wheel in having if len(plainwheels.words(wheel)) == fewest]
        self.assertEqual([told], least, (base, rows))

    def test_no_rows_and_noughts(self):
        for base in SMALL + ROOTS:
            n = plainwheels.length(base[0], base[2])
            every = base + (tuple(range(n)),)
            self.assertEqual(wheel_around(*base, ()), every)
            self.assertEqual(wheel_around(*base, ((0,) * n,)), every)
            self.assertEqual(wheel_around(*base, ((0,) * n, (0,) * n)), every)
            alone = (0,) * (n - 1) + (1,)
            self.assertEqual(wheel_around(*base, (alone,)), base + ((),))
            self.assertEqual(wheel_around(*base, ((0,) * n, alone)), base + ((),))

    def test_one_row(self):
        for base in SMALL:
            for row in plainmending.some(list(plainwheels.all_noughts(*base)), 60):
                self.check(base, (row,))

    def test_several_rows(self):
        draw = plainmending.drawer(31)
        for base in SMALL:
            every = list(plainwheels.all_noughts(*base))
            for many in (2, 2, 2, 3, 5):
                self.check(base, tuple(draw.choice(every) for _ in range(many)))
            for wheel in plainmending.some(plainwheels.wheels(*base), 8):
                own = plainwheels.words(wheel)
                for many in (1, 2, 2, 4):
                    self.check(base, tuple(draw.choice(own) for _ in range(many)))

    def test_all_words_of_a_wheel_and_its_maker(self):
        for base in SMALL:
            n = plainwheels.length(base[0], base[2])
            for wheel in plainmending.some(plainwheels.wheels(*base), 6):
                own = plainwheels.words(wheel)
                if len(own) <= 81:
                    self.assertEqual(wheel_around(*base, own), wheel)
                if len(wheel[3]) < n:
                    row = plainwheels.maker(base[0], base[2], wheel[3])
                    self.assertEqual(wheel_around(*base, (row + (0,) * (n - len(row)),)), wheel)

    def test_longer_ones(self):
        draw = plainmending.drawer(32)
        for base in ROOTS:
            field, few, root = base
            n = plainwheels.length(field, root)
            own = table(field).letters(few)
            for many in (1, 2):
                rows = tuple(plainmending.drawn(draw, own, n) for _ in range(many))
                marks = set(range(n))
                for row in rows:
                    marks &= plainwheels.noughts(field, root, row)
                self.assertEqual(wheel_around(*base, rows), base + (tuple(sorted(marks)),))

    def test_rows_handed_in_stay_and_the_same_is_told_again(self):
        rows = ((1, 1, 0, 1, 0, 0, 0), (0,) * 7)
        for _ in range(2):
            self.assertEqual(wheel_around(*SEVEN, rows), SEVEN + ((1, 2, 4),))
        self.assertEqual(rows, ((1, 1, 0, 1, 0, 0, 0), (0,) * 7))
        self.assertEqual(wheel_around(*SEVEN, ((1, 1, 0, 1, 0, 0, 0), (1, 0, 1, 1, 0, 0, 0))), SEVEN + ((),))
        self.assertEqual(wheel_around(*SEVEN, ((1,) * 7,)), SEVEN + ((1, 2, 3, 4, 5, 6),))


class ClosedSets(unittest.TestCase):
    def test_each_closed_set_is_that_of_just_one_wheel_and_meets_and_joins_too(self):
        for base in [((2, 2, 3), 1, 2), ((3, 1, 0), 1, 2), ((2, 2, 3), 2, 3), ((2, 3, 3), 1, 2)]:
            by_words = {frozenset(plainwheels.words(wheel)): wheel for wheel in all_wheels(*base)}
            self.assertEqual(len(by_words), len(all_wheels(*base)))
            for one, other in itertools.product(by_words, repeat=2):
                self.assertEqual(by_words[one & other], meet(by_words[one], by_words[other]))
                together = frozenset(sums(base[0], one, other))
                self.assertEqual(by_words[together], join(by_words[one], by_words[other]))


if __name__ == "__main__":
    unittest.main()
