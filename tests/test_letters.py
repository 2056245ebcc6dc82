import itertools
import unittest

import plainly
from plainly import SIZES, least_field, table

from roundwords.fields import minus, over, plus, power, times
from roundwords.letters import letters, trace

FIELDS = [least_field(p, m) for p, m in SIZES if m > 1] + [(2, 1, 0), (7, 1, 3), (31, 1, 0), (2, 4, 9), (2, 6, 33)]


def parting(many):
    return [few for few in range(1, many + 1) if many % few == 0]


class Letters(unittest.TestCase):
    def test_those_whose_power_is_themselves(self):
        for field in FIELDS:
            for few in parting(field[1]):
                told = letters(field, few)
                self.assertEqual(told, table(field).letters(few), (field, few))
                self.assertEqual(len(told), field[0] ** few)
                self.assertTrue(plainly.is_numbers(told))
                self.assertEqual(letters(field, few), told)

    def test_known_ones(self):
        self.assertEqual(letters((2, 3, 3), 1), (0, 1))
        self.assertEqual(letters((2, 3, 3), 3), tuple(range(8)))
        self.assertEqual(letters((2, 4, 3), 2), (0, 1, 6, 7))
        self.assertEqual(letters((3, 2, 2), 1), (0, 1, 2))
        self.assertEqual(letters((7, 1, 3), 1), tuple(range(7)))

    def test_closed_under_all_four(self):
        for field in FIELDS:
            for few in parting(field[1]):
                told = letters(field, few)
                for one, other in itertools.product(told, repeat=2):
                    self.assertIn(plus(field, one, other), told)
                    self.assertIn(minus(field, one, other), told)
                    self.assertIn(times(field, one, other), told)
                    if other != 0:
                        self.assertIn(over(field, one, other), told)


class Traces(unittest.TestCase):
    def test_the_sum_of_the_powers(self):
        for field in FIELDS:
            known = table(field)
            p = field[0]
            for few in parting(field[1]):
                for fewer in parting(few):
                    for one in known.letters(few):
                        total = 0
                        for k in range(few // fewer):
                            ring = known.powers(one)
                            many = p ** (fewer * k)
                            total = known.sums[total][0 if one == 0 else ring[many % len(ring)]]
                        told = trace(field, few, fewer, one)
                        self.assertEqual(told, total, (field, few, fewer, one))
                        self.assertIs(type(told), int)
                        self.assertIn(told, letters(field, fewer))
                        self.assertEqual(trace(field, few, fewer, one), told)

    def test_fewer_as_many_leaves_the_letter(self):
        for field in FIELDS:
            for few in parting(field[1]):
                for one in letters(field, few):
                    self.assertEqual(trace(field, few, few, one), one)

    def test_each_letter_by_fewer_is_a_trace(self):
        for field in FIELDS:
            for few in parting(field[1]):
                for fewer in parting(few):
                    told = {trace(field, few, fewer, one) for one in letters(field, few)}
                    self.assertEqual(tuple(sorted(told)), letters(field, fewer))

    def test_by_hand(self):
        self.assertEqual([trace((2, 2, 3), 2, 1, one) for one in range(4)], [0, 0, 1, 1])
        self.assertEqual([trace((3, 2, 2), 2, 1, one) for one in range(9)], [0, 2, 1, 0, 2, 1, 0, 2, 1])
        for one in range(64):
            field = (2, 6, 3)
            self.assertEqual(trace(field, 6, 3, one), plus(field, one, power(field, one, 8)))


if __name__ == "__main__":
    unittest.main()
