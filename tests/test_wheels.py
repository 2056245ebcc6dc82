import itertools
import math
import unittest

import plainly
import plainwheels
from plainwheels import EIGHT, FIFTEEN, GREAT, NINE, SIX, SMALL

from roundwords.wheels import is_wheel, length, rings

EIGHTS = (2, 3, 3)


class IsWheel(unittest.TestCase):
    def test_all_wheels_of_small_roots(self):
        for field, few, root in SMALL + [SIX, EIGHT, NINE, FIFTEEN]:
            for wheel in plainwheels.wheels(field, few, root):
                self.assertIs(is_wheel(wheel), True, wheel)

    def test_each_set_of_marks(self):
        for field, few, root in [(EIGHTS, 1, 2), (EIGHTS, 3, 4), ((3, 2, 2), 1, 4), ((3, 2, 2), 2, 4), ((5, 1, 0), 1, 2)]:
            n = plainwheels.length(field, root)
            for many in range(n + 1):
                for marks in itertools.combinations(range(n), many):
                    wheel = (field, few, root, marks)
                    self.assertIs(is_wheel(wheel), plainwheels.is_wheel(wheel), wheel)

    def test_few_and_root(self):
        for field in [EIGHTS, (2, 4, 3), (3, 2, 2), (7, 1, 3), (2, 1, 0)]:
            for few in list(range(-3, field[1] + 3)) + [10 ** 30, -10 ** 30]:
                for root in list(range(-2, field[0] ** field[1] + 2)) + [10 ** 30, -10 ** 30]:
                    for marks in ((), (0,), (1, 2, 4), (5, 10), (0, 1)):
                        wheel = (field, few, root, marks)
                        self.assertIs(is_wheel(wheel), plainwheels.is_wheel(wheel), wheel)

    def test_edges(self):
        self.assertIs(is_wheel((EIGHTS, 1, 2, ())), True)
        self.assertIs(is_wheel((EIGHTS, 1, 2, (0,))), True)
        self.assertIs(is_wheel((EIGHTS, 1, 2, (1, 2, 4))), True)
        self.assertIs(is_wheel((EIGHTS, 1, 2, tuple(range(7)))), True)
        self.assertIs(is_wheel((EIGHTS, 3, 2, (1,))), True)
        self.assertIs(is_wheel(((2, 1, 0), 1, 1, (0,))), True)
        self.assertIs(is_wheel(((2, 1, 0), 1, 1, (1,))), False)
        self.assertIs(is_wheel(((2, 1, 0), 1, 0, ())), False)

    def test_marks_that_are_none(self):
        for marks in [(1, 4, 2), (4, 2, 1), (1, 1, 2, 4), (1, 2, 2, 4), (1, 2), (1,), (7,), (0, 7), (-1,), (-7, 0),
                      (1, 2, 4, 7), (1, 2, 4, 8), tuple(range(8)), [1, 2, 4], [], {1, 2, 4}, {}, {0: 0}, range(7), "124",
                      "", b"\x01\x02\x04", b"", None, 0, True, (True, 2, 4), (False,), (0, True, 2, 4), ((1, 2, 4),),
                      ([1, 2, 4],), (1, 2, [4]), (1, 2, None), (1, 2, "4"), (1, (2,), 4), (1, 2, 4, ()), (10 ** 40,),
                      (0, 10 ** 40), (-10 ** 40, 0), (plainly.Odd(),), plainly.Odd()]:
            self.assertIs(is_wheel((EIGHTS, 1, 2, marks)), False)

    def test_numbers_beyond_that_are_closed_all_the_same(self):
        for marks in [(-1, 3, 5, 6), (-4, -2, -1, 3, 5, 6), (3, 5, 6, 10), (0, 7), (0, 14), (-7, 0)]:
            self.assertIs(is_wheel((EIGHTS, 1, 2, marks)), False, marks)
        for marks in [(-1, 0), (0, 1), (-1,), (1,)]:
            self.assertIs(is_wheel(((2, 1, 0), 1, 1, marks)), False, marks)

    def test_fields_that_are_none(self):
        for field in [(2, 3, 0), (2, 3, 1), (2, 3, 2), (4, 1, 0), (2, 7, 3), (2, 3, 8), (1, 3, 0), (2, 3), (2, 3, 3, 3),
                      [2, 3, 3], None, "2.3.3", 8, {}, (True, 3, 3), (2, 3, True), ((2, 3, 3),)]:
            for few in (1, 3):
                for marks in ((), (0,), (1, 2, 4)):
                    self.assertIs(is_wheel((field, few, 2, marks)), False, field)
        self.assertIs(is_wheel((EIGHTS, 1, 2, ())), True)

    def test_truths_lists_and_other_numbers_of_things(self):
        self.assertIs(is_wheel((EIGHTS, True, 2, (1, 2, 4))), False)
        self.assertIs(is_wheel((EIGHTS, 1, True, (0,))), False)
        self.assertIs(is_wheel((EIGHTS, 1, 1, (0,))), True)
        self.assertIs(is_wheel([EIGHTS, 1, 2, (1, 2, 4)]), False)
        self.assertIs(is_wheel((EIGHTS, 1, 2)), False)
        self.assertIs(is_wheel((EIGHTS, 1, 2, (1, 2, 4), ())), False)
        self.assertIs(is_wheel((EIGHTS, (1,), 2, (1, 2, 4))), False)
        self.assertIs(is_wheel((EIGHTS, 1, [2], (1, 2, 4))), False)
        self.assertIs(is_wheel((EIGHTS, 1, "2", (1, 2, 4))), False)
        self.assertIs(is_wheel((EIGHTS, None, 2, (1, 2, 4))), False)

    def test_anything(self):
        for at, thing in enumerate(plainly.anything()):
            self.assertIs(is_wheel(thing), False, at)
            self.assertIs(is_wheel((thing, 1, 2, (1, 2, 4))), False, at)
            if type(thing) is not int:
                self.assertIs(is_wheel((EIGHTS, thing, 2, (1, 2, 4))), False, at)
                self.assertIs(is_wheel((EIGHTS, 1, thing, (1, 2, 4))), False, at)
            if type(thing) is not tuple:
                self.assertIs(is_wheel((EIGHTS, 1, 2, thing)), False, at)
            self.assertIs(is_wheel((EIGHTS, 1, 2, (1, 2, thing))), thing == 4 if type(thing) is int else False, at)


class Length(unittest.TestCase):
    def test_the_round_of_the_root(self):
        for field, few, root in SMALL + [SIX, EIGHT, NINE, FIFTEEN, GREAT]:
            for marks in ((), (0,)):
                told = length((field, few, root, marks))
                self.assertEqual(told, plainwheels.length(field, root))
                self.assertIs(type(told), int)
        self.assertEqual(length((EIGHTS, 1, 2, (1, 2, 4))), 7)
        self.assertEqual(length(((2, 6, 3), 2, 1, ())), 1)
        self.assertEqual(length(((2, 6, 3), 1, 2, ())), 63)


class Rings(unittest.TestCase):
    def test_all_numbers_of_places(self):
        for n in range(1, 64):
            for q in list(range(1, 70)) + [10 ** 30 + 7, 2 ** 100, 3 ** 70, n * 10 ** 20 + 1]:
                if math.gcd(n, q) == 1:
                    told = rings(n, q)
                    self.assertEqual(told, plainwheels.ring_sets(n, q), (n, q))
                    self.assertTrue(plainly.is_plain(told))

    def test_somewhat_beyond_the_bound_nothing_is_refused(self):
        self.assertEqual(rings(64, 3), plainwheels.ring_sets(64, 3))
        self.assertEqual(rings(80, 3), plainwheels.ring_sets(80, 3))

    def test_by_hand(self):
        self.assertEqual(rings(7, 2), ((0,), (1, 2, 4), (3, 5, 6)))
        self.assertEqual(rings(1, 5), ((0,),))
        self.assertEqual(rings(1, 1), ((0,),))
        self.assertEqual(rings(4, 1), ((0,), (1,), (2,), (3,)))
        self.assertEqual(rings(15, 2), ((0,), (1, 2, 4, 8), (3, 6, 9, 12), (5, 10), (7, 11, 13, 14)))
        self.assertEqual(rings(7, 2), rings(7, 2))


if __name__ == "__main__":
    unittest.main()
