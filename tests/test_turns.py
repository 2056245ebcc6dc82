import itertools
import math
import unittest

import plainly
import plainmending
import plainwheels
from plainly import table
from plainwheels import EIGHT, FIFTEEN, GREAT, NINE, SIX, SMALL

from roundwords.alls import all_wheels
from roundwords.errors import NoRoot, TooMany
from roundwords.turns import by_root, kinds, turn_between, turned_by, turned_word
from roundwords.wheels import is_wheel

SEVEN = ((2, 3, 3), 1, 2)
THREES = plainly.least_field(3, 3)


def root(field, n):
    return next(one for one in range(1, field[0] ** field[1]) if table(field).round(one) == n)


def turns(n, most):
    """All numbers from 1 to most that share no divisor above 1 with n."""
    return [a for a in range(1, most + 1) if math.gcd(a, n) == 1]


def plain_turned(word, a):
    told = [None] * len(word)
    for k in range(len(word)):
        told[k * a % len(word)] = word[k]
    return tuple(told)


def refuses(case, what, *given):
    """That it is refused with NoRoot, and with nothing that stands under it or above it."""
    with case.assertRaises(NoRoot) as kept:
        what(*given)
    case.assertIs(type(kept.exception), NoRoot)


class TurnedWord(unittest.TestCase):
    def test_each_letter_comes_to_its_place(self):
        for n in (1, 2, 3, 4, 5, 6, 7, 8, 9, 15, 26, 63):
            word = tuple(range(n))
            for a in turns(n, 3 * n + 2):
                told = turned_word(word, a)
                self.assertTrue(plainly.is_numbers(told))
                self.assertEqual(told, plain_turned(word, a), (n, a))
                self.assertEqual(turned_word(word, a), told)
                self.assertEqual(turned_word(word, a + n), told)
            self.assertEqual(turned_word(word, 1), word)
            self.assertEqual(turned_word(word, n + 1), word)
            self.assertEqual(turned_word(word, 10 ** 30 * n + 1), word)

    def test_of_one_letter(self):
        for a in (1, 2, 3, 6, 10 ** 20):
            self.assertEqual(turned_word((5,), a), (5,))

    def test_by_hand(self):
        self.assertEqual(turned_word((0, 1, 2, 3, 4, 5, 6), 3), (0, 5, 3, 1, 6, 4, 2))
        self.assertEqual(turned_word((0, 1, 2, 3, 4, 5, 6), 6), (0, 6, 5, 4, 3, 2, 1))
        self.assertEqual(turned_word((7, 8, 9), 5), (7, 9, 8))


class TurnedBy(unittest.TestCase):
    def check_form(self, told, wheel):
        self.assertTrue(type(told) is tuple and plainly.is_plain(told))
        self.assertEqual(told[:3], wheel[:3])
        self.assertTrue(plainwheels.is_wheel(told), told)

    def test_the_words_are_just_the_words_turned(self):
        for base in SMALL:
            n = plainwheels.length(base[0], base[2])
            for wheel in plainmending.some(plainwheels.wheels(*base), 16):
                every = plainwheels.words(wheel)
                for a in plainmending.some(turns(n, 2 * n + 3), 9):
                    told = turned_by(wheel, a)
                    self.check_form(told, wheel)
                    turned = sorted(plain_turned(word, a) for word in every)
                    self.assertEqual(list(plainwheels.words(told)), turned, (wheel, a))
                    self.assertEqual(turned_by(wheel, a), told)

    def test_eight_and_nine_places(self):
        for base in (EIGHT, NINE):
            n = plainwheels.length(base[0], base[2])
            for wheel in plainmending.some(plainwheels.wheels(*base), 7):
                every = plainwheels.words(wheel)
                for a in turns(n, n + 2):
                    turned = sorted(plain_turned(word, a) for word in every)
                    self.assertEqual(list(plainwheels.words(turned_by(wheel, a))), turned, (wheel, a))

    def test_longer_ones(self):
        draw = plainmending.drawer(71)
        for wheel, _ in plainmending.LONG:
            field, few, root, marks = wheel
            n = plainwheels.length(field, root)
            for a in plainmending.some(turns(n, 2 * n), 6):
                told = turned_by(wheel, a)
                self.check_form(told, wheel)
                self.assertEqual(len(told[3]), len(marks))
                for _ in range(2):
                    word = plain_turned(plainmending.drawn_word(draw, wheel), a)
                    self.assertLessEqual(set(told[3]), plainwheels.noughts(field, root, word), (wheel, a))

    def test_no_marks_and_all_marks_stay(self):
        for base in SMALL + [SIX, EIGHT, NINE, FIFTEEN, GREAT]:
            n = plainwheels.length(base[0], base[2])
            for marks in ((), tuple(range(n))):
                for a in turns(n, n + 3):
                    self.assertEqual(turned_by(base + (marks,), a), base + (marks,))

    def test_by_hand(self):
        self.assertEqual(turned_by(SEVEN + ((1, 2, 4),), 3), SEVEN + ((3, 5, 6),))
        self.assertEqual(turned_by(SEVEN + ((1, 2, 4),), 2), SEVEN + ((1, 2, 4),))
        self.assertEqual(turned_by(((11, 1, 0), 1, 2, (1, 2)), 3), ((11, 1, 0), 1, 2, (4, 7)))
        self.assertEqual(turned_by(((11, 1, 0), 1, 2, (1, 2)), 13), ((11, 1, 0), 1, 2, (4, 7)))


class TurnBetween(unittest.TestCase):
    def test_the_least_by_the_words(self):
        for base in SMALL:
            n = plainwheels.length(base[0], base[2])
            every = plainmending.some(plainwheels.wheels(*base), 12)
            turned = {wheel: {a: sorted(plain_turned(word, a) for word in plainwheels.words(wheel))
                              for a in turns(n, max(1, n - 1))} for wheel in every}
            for one, other in itertools.product(every, repeat=2):
                found = [a for a, some in turned[one].items() if some == list(plainwheels.words(other))]
                told = turn_between(one, other)
                self.assertEqual(told, min(found, default=None), (one, other))
                self.assertTrue(told is None or type(told) is int)
                self.assertEqual(turn_between(one, other), told)

    def test_of_a_wheel_and_itself(self):
        for base in SMALL + [SIX, EIGHT, NINE, FIFTEEN]:
            for wheel in plainmending.some(plainwheels.wheels(*base), 20):
                told = turn_between(wheel, wheel)
                self.assertEqual(told, 1)
                self.assertIs(type(told), int)

    def test_longer_ones_by_their_marks(self):
        for base in [FIFTEEN, NINE, ((11, 1, 0), 1, 2), (THREES, 1, root(THREES, 26))]:
            n = plainwheels.length(base[0], base[2])
            for one, other in itertools.product(plainmending.some(all_wheels(*base), 18), repeat=2):
                found = [a for a in turns(n, n) if {i * a % n for i in other[3]} == set(one[3])]
                self.assertEqual(turn_between(one, other), min(found, default=None), (one, other))
            for one in plainmending.some(all_wheels(*base), 18):
                for a in turns(n, n):
                    self.assertLessEqual(turn_between(one, turned_by(one, a)), a)

    def test_both_ways_are_not_the_same(self):
        one, other = ((11, 1, 0), 1, 2, (1, 2)), ((11, 1, 0), 1, 2, (4, 7))
        self.assertEqual(turn_between(one, other), 3)
        self.assertEqual(turn_between(other, one), 7)

    def test_by_hand(self):
        self.assertEqual(turn_between(SEVEN + ((1, 2, 4),), SEVEN + ((3, 5, 6),)), 3)
        self.assertIsNone(turn_between(SEVEN + ((1, 2, 4),), SEVEN + ((0,),)))
        self.assertIsNone(turn_between(SEVEN + ((),), SEVEN + ((0,),)))
        self.assertIsNone(turn_between(((2, 1, 0), 1, 1, ()), ((2, 1, 0), 1, 1, (0,))))


class ByRoot(unittest.TestCase):
    def test_the_same_words_by_each_root_of_the_round(self):
        for base in [((2, 2, 3), 1, 2), ((2, 2, 3), 2, 3), ((5, 1, 0), 1, 3), ((7, 1, 3), 1, 2), ((2, 3, 3), 1, 2),
                     ((2, 3, 3), 1, 5), ((3, 2, 2), 1, 3), ((3, 1, 0), 1, 2), ((2, 1, 0), 1, 1), ((2, 4, 3), 2, 8)]:
            field, few, own_root = base
            n = plainwheels.length(field, own_root)
            for other in [one for one in range(1, field[0] ** field[1]) if table(field).round(one) == n]:
                for wheel in plainmending.some(plainwheels.wheels(*base), 9):
                    told = by_root(wheel, other)
                    self.assertTrue(type(told) is tuple and plainly.is_plain(told))
                    self.assertTrue(plainwheels.is_wheel(told))
                    self.assertEqual(told[:3], (field, few, other))
                    self.assertEqual(plainwheels.words(told), plainwheels.words(wheel), (wheel, other))
                    self.assertEqual(by_root(told, own_root), wheel)
                    self.assertEqual(by_root(wheel, other), told)

    def test_longer_ones_by_their_makers(self):
        for wheel, _ in plainmending.LONG:
            field, few, own_root, marks = wheel
            n = plainwheels.length(field, own_root)
            row = plainwheels.maker(field, own_root, marks)
            same = [one for one in range(1, field[0] ** field[1]) if table(field).round(one) == n]
            for other in plainmending.some(same, 6):
                told = by_root(wheel, other)
                self.assertTrue(plainwheels.is_wheel(told))
                self.assertEqual(told[:3], (field, few, other))
                self.assertEqual(plainwheels.maker(field, other, told[3]), row, (wheel, other))

    def test_by_its_own_root(self):
        for base in SMALL + [SIX, EIGHT, FIFTEEN]:
            for wheel in plainmending.some(plainwheels.wheels(*base), 12):
                self.assertEqual(by_root(wheel, base[2]), wheel)

    def test_roots_of_another_round_and_nought(self):
        for base in SMALL + [SIX, EIGHT, NINE, FIFTEEN, GREAT, ((7, 2, 3), 2, 8)]:
            field = base[0]
            n = plainwheels.length(field, base[2])
            for wheel in (base + ((),), base + (tuple(range(n)),)):
                refuses(self, by_root, wheel, 0)
                for one in range(1, field[0] ** field[1]):
                    if table(field).round(one) == n:
                        self.assertEqual(by_root(wheel, one)[2], one)
                    else:
                        refuses(self, by_root, wheel, one)

    def test_numbers_that_are_no_things(self):
        # They have no round at all, so no round n either.
        for one in (-1, 8, 9, 64, 10 ** 30, -10 ** 30):
            refuses(self, by_root, SEVEN + ((1, 2, 4),), one)

    def test_by_hand(self):
        self.assertEqual(by_root(SEVEN + ((1, 2, 4),), 3), SEVEN[:2] + (3, (3, 5, 6)))
        self.assertEqual(by_root(SEVEN + ((1, 2, 4),), 4), SEVEN[:2] + (4, (1, 2, 4)))
        self.assertEqual(by_root(((7, 1, 0), 1, 3, (1, 2)), 5), ((7, 1, 0), 1, 5, (4, 5)))


class Kinds(unittest.TestCase):
    def check(self, base):
        told = kinds(*base)
        self.assertTrue(type(told) is tuple and plainly.is_plain(told))
        every = all_wheels(*base)
        at = {wheel: k for k, wheel in enumerate(every)}
        flat = [wheel for kind in told for wheel in kind]
        self.assertEqual(sorted(flat), list(every))
        for kind in told:
            self.assertTrue(len(kind) > 0 and [at[wheel] for wheel in kind] == sorted(at[wheel] for wheel in kind))
        self.assertEqual([at[kind[0]] for kind in told], sorted(at[kind[0]] for kind in told))
        n = plainwheels.length(base[0], base[2])
        for kind in told:
            marks = {tuple(sorted(i * a % n for i in kind[0][3])) for a in turns(n, n)}
            self.assertEqual({wheel[3] for wheel in kind}, marks, base)
        return told

    def test_small_roots(self):
        for base in SMALL + [SIX, EIGHT, NINE, FIFTEEN]:
            told = self.check(base)
            self.assertEqual(kinds(*base), told)

    def test_by_the_words(self):
        for base in [((2, 2, 3), 2, 3), ((5, 1, 0), 1, 3), ((2, 3, 3), 1, 2), ((2, 4, 3), 2, 8), ((3, 2, 2), 1, 3)]:
            n = plainwheels.length(base[0], base[2])
            told = kinds(*base)
            kind_of = {wheel: k for k, kind in enumerate(told) for wheel in kind}
            by_words = {plainwheels.words(wheel): wheel for wheel in all_wheels(*base)}
            for wheel in all_wheels(*base):
                reached = {by_words[tuple(sorted(plain_turned(word, a) for word in plainwheels.words(wheel)))]
                           for a in turns(n, n)}
                self.assertEqual(reached, set(told[kind_of[wheel]]))

    def test_within_a_kind_there_is_a_turn_and_to_another_there_is_none(self):
        for base in [SEVEN, FIFTEEN, ((7, 1, 0), 1, 3)]:
            told = kinds(*base)
            for one, other in itertools.product(told, repeat=2):
                for here, there in itertools.product(one, other):
                    self.assertIs(turn_between(here, there) is not None, one == other)

    def test_just_ten_rings(self):
        for base in [((11, 1, 0), 1, 2), (THREES, 1, root(THREES, 26)), ((31, 1, 0), 1, root((31, 1, 0), 10))]:
            n = plainwheels.length(base[0], base[2])
            self.assertEqual(len(plainwheels.ring_sets(n, base[0][0] ** base[1])), 10)
            self.check(base)

    def test_above_ten_rings(self):
        for base in [((23, 1, 0), 1, root((23, 1, 0), 11)), ((13, 1, 0), 1, 2), GREAT, ((2, 6, 3), 6, 2),
                     ((2, 4, 3), 4, 2)]:
            n = plainwheels.length(base[0], base[2])
            self.assertGreater(len(plainwheels.ring_sets(n, base[0][0] ** base[1])), 10)
            for _ in range(2):
                with self.assertRaises(TooMany):
                    kinds(*base)
        self.assertEqual(len(plainwheels.ring_sets(11, 23)), 11)

    def test_by_hand(self):
        self.assertEqual([[wheel[3] for wheel in kind] for kind in kinds(*SEVEN)],
                         [[()], [(0,)], [(0, 1, 2, 3, 4, 5, 6)], [(0, 1, 2, 4), (0, 3, 5, 6)],
                          [(1, 2, 3, 4, 5, 6)], [(1, 2, 4), (3, 5, 6)]])
        self.assertEqual(kinds((2, 1, 0), 1, 1), ((((2, 1, 0), 1, 1, ()),), (((2, 1, 0), 1, 1, (0,)),)))
        self.assertTrue(all(is_wheel(wheel) for kind in kinds(*SEVEN) for wheel in kind))


if __name__ == "__main__":
    unittest.main()
