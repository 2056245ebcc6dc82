import itertools
import unittest

import plainly
from plainly import SIZES, least_field, table

from roundwords.errors import ByNought, NoRoot
from roundwords.fields import (field_of, is_field, many_things, minus, over, plus, power, root_of, round_of,
                               times)

FIELDS = [least_field(p, m) for p, m in SIZES if p ** m <= 32 or m > 1]
OTHER_TOPS = [(7, 1, 3), (5, 1, 4), (2, 3, 5), (2, 4, 9), (3, 2, 4), (5, 2, 3), (2, 6, 33)]
SMALL = [field for field in FIELDS + OTHER_TOPS if field[0] ** field[1] <= 16]
GREAT = 10 ** 60


class IsField(unittest.TestCase):
    def test_each_top_as_its_products_say(self):
        for p, m in SIZES:
            if m == 1:
                continue
            for top in range(p ** m):
                field = (p, m, top)
                self.assertIs(is_field(field), not plainly.parts_nought(field), field)

    def test_with_one_digit_each_top_makes_a_field(self):
        for p, m in SIZES:
            if m == 1:
                for top in range(p):
                    self.assertIs(is_field((p, 1, top)), True, (p, top))

    def test_both_answers_come_with_two_digits_and_more(self):
        for p, m in SIZES:
            if m > 1:
                answers = [is_field((p, m, top)) for top in range(p ** m)]
                self.assertIn(True, answers)
                self.assertIn(False, answers)

    def test_a_top_that_is_no_thing(self):
        for p, m in SIZES:
            for top in (-1, -p, p ** m, p ** m + 1, p ** m + least_field(p, m)[2], GREAT, -GREAT):
                self.assertIs(is_field((p, m, top)), False, (p, m, top))

    def test_p_no_prime(self):
        for p in [-7, -2, -1, 0, 1, GREAT, -GREAT] + [k for k in range(65) if k not in plainly.PRIMES]:
            for top in range(3):
                self.assertIs(is_field((p, 1, top)), False, p)
                self.assertIs(is_field((p, 2, top)), False, p)

    def test_m_below_one(self):
        for m in (0, -1, -2, -GREAT):
            for p in (2, 3, 61):
                for top in (0, 1):
                    self.assertIs(is_field((p, m, top)), False, (p, m, top))

    def test_more_than_64_things(self):
        for p, m, top in [(2, 7, 3), (3, 4, 0), (3, 4, 5), (5, 3, 7), (11, 2, 2), (67, 1, 0), (127, 1, 0), (2, 64, 3),
                          (2, 65, 3), (2, GREAT, 3), (GREAT + 7, 1, 0), (61, GREAT, 0)]:
            self.assertIs(is_field((p, m, top)), False, (p, m, top))
        for top in range(81):
            self.assertIs(is_field((3, 4, top)), False, top)

    def test_truths_are_no_numbers(self):
        self.assertIs(is_field((2, 1, 0)), True)
        self.assertIs(is_field((2, True, 0)), False)
        self.assertIs(is_field((2, 1, False)), False)
        self.assertIs(is_field((2, 1, True)), False)
        self.assertIs(is_field((True, 1, 0)), False)

    def test_lists_and_other_numbers_of_things(self):
        self.assertIs(is_field([2, 3, 3]), False)
        self.assertIs(is_field((2, 3)), False)
        self.assertIs(is_field((2, 3, 3, 0)), False)
        self.assertIs(is_field(((2, 3, 3),)), False)
        self.assertIs(is_field((2, 3, (3,))), False)
        self.assertIs(is_field((2, 3, "3")), False)
        self.assertIs(is_field((2, 3, None)), False)
        self.assertIs(is_field({2: 1, 3: 3}), False)
        self.assertIs(is_field("233"), False)

    def test_anything(self):
        for at, thing in enumerate(plainly.anything()):
            self.assertIs(is_field(thing), False, at)
        for at, thing in enumerate(plainly.anything()):
            if type(thing) is int:
                continue
            self.assertIs(is_field((thing, 1, 0)), False, at)
            self.assertIs(is_field((2, thing, 0)), False, at)
            self.assertIs(is_field((2, 1, thing)), False, at)


class FieldOf(unittest.TestCase):
    def test_the_least_top(self):
        for p, m in SIZES:
            field = field_of(p, m)
            self.assertEqual(field, least_field(p, m))
            self.assertTrue(plainly.is_numbers(field))
            self.assertIs(is_field(field), True)
            self.assertEqual(field_of(p, m), field)

    def test_known_ones(self):
        for field in [(2, 1, 0), (61, 1, 0), (2, 2, 3), (2, 3, 3), (2, 4, 3), (2, 5, 5), (2, 6, 3), (3, 2, 2)]:
            self.assertEqual(field_of(field[0], field[1]), field)

    def test_somewhat_beyond_the_bound_nothing_is_refused(self):
        self.assertEqual(field_of(2, 7), (2, 7, 3))
        self.assertEqual(field_of(67, 1), (67, 1, 0))

    def test_many_things(self):
        for p, m in SIZES:
            self.assertEqual(many_things(least_field(p, m)), p ** m)
        self.assertEqual(many_things((7, 1, 3)), 7)
        self.assertEqual(many_things((2, 7, 3)), 128)
        self.assertIs(type(many_things((2, 1, 0))), int)


class Reckoning(unittest.TestCase):
    def test_plus_and_times_against_the_digits(self):
        for field in FIELDS + OTHER_TOPS + [(61, 1, 0), (61, 1, 60)]:
            known = table(field)
            for one, other in itertools.product(known.things, repeat=2):
                self.assertEqual(plus(field, one, other), known.sums[one][other], (field, one, other))
                self.assertEqual(times(field, one, other), known.products[one][other], (field, one, other))

    def test_minus_is_what_together_with_other_is_one(self):
        for field in FIELDS + OTHER_TOPS:
            known = table(field)
            for one, other in itertools.product(known.things, repeat=2):
                told = minus(field, one, other)
                self.assertIn(told, known.things)
                self.assertEqual(known.sums[told][other], one, (field, one, other))

    def test_over_is_what_times_other_is_one(self):
        for field in FIELDS + OTHER_TOPS:
            known = table(field)
            for one, other in itertools.product(known.things, known.things[1:]):
                told = over(field, one, other)
                self.assertIn(told, known.things)
                self.assertEqual(known.products[told][other], one, (field, one, other))

    def test_over_by_nought(self):
        for field in FIELDS + OTHER_TOPS:
            for one in (0, 1, many_things(field) - 1):
                with self.assertRaises(ByNought):
                    over(field, one, 0)
            self.assertEqual(over(field, 0, 1), 0)

    def test_by_hand(self):
        eight = (2, 3, 3)
        self.assertEqual(plus(eight, 5, 3), 6)
        self.assertEqual(minus(eight, 5, 3), 6)
        self.assertEqual(times(eight, 2, 4), 3)
        self.assertEqual(times(eight, 4, 4), 6)
        self.assertEqual(over(eight, 3, 4), 2)
        nine = (3, 2, 2)
        self.assertEqual(plus(nine, 5, 7), 0)
        self.assertEqual(minus(nine, 0, 5), 7)
        self.assertEqual(times(nine, 3, 3), 2)
        seven = (7, 1, 3)
        self.assertEqual(plus(seven, 5, 4), 2)
        self.assertEqual(minus(seven, 2, 5), 4)
        self.assertEqual(times(seven, 5, 4), 6)
        self.assertEqual(over(seven, 1, 3), 5)

    def test_what_is_told_is_whole_numbers_and_told_again(self):
        for field in [(2, 1, 0), (2, 3, 3), (3, 2, 2), (7, 1, 3)]:
            for reckon in (plus, minus, times, over, power):
                for one, other in itertools.product(range(many_things(field)), range(1, many_things(field))):
                    told = reckon(field, one, other)
                    self.assertIs(type(told), int)
                    self.assertEqual(reckon(field, one, other), told)
            self.assertIs(type(round_of(field, 1)), int)
            self.assertIs(type(root_of(field, 1)), int)


class Powers(unittest.TestCase):
    def test_small_powers(self):
        for field in FIELDS + OTHER_TOPS:
            known = table(field)
            for one in known.things:
                product = 1
                for many in range(known.size + 3):
                    self.assertEqual(power(field, one, many), product, (field, one, many))
                    product = known.products[product][one]

    def test_by_nought_is_one(self):
        for field in FIELDS + OTHER_TOPS:
            for one in range(many_things(field)):
                self.assertEqual(power(field, one, 0), 1)

    def test_great_numbers(self):
        for field in FIELDS + OTHER_TOPS:
            known = table(field)
            for one in known.things[1:]:
                ring = known.powers(one)
                for many in (GREAT, GREAT + 1, GREAT + 17, 2 ** 200, 3 ** 300 + 1):
                    self.assertEqual(power(field, one, many), ring[many % len(ring)])
                    self.assertEqual(power(field, one, -many), ring[-many % len(ring)])
            self.assertEqual(power(field, 0, GREAT), 0)

    def test_below_nought_is_one_over(self):
        for field in FIELDS + OTHER_TOPS:
            known = table(field)
            for one in known.things[1:]:
                for many in range(1, known.size + 2):
                    told = power(field, one, -many)
                    self.assertEqual(known.products[told][known.power(one, many)], 1, (field, one, many))

    def test_nought_below_nought(self):
        for field in FIELDS + OTHER_TOPS:
            for many in (-1, -2, 1 - many_things(field), -many_things(field), -GREAT):
                with self.assertRaises(ByNought):
                    power(field, 0, many)
            self.assertEqual(power(field, 0, many_things(field) - 1), 0)
            self.assertEqual(power(field, 0, 1), 0)

    def test_round_of_each_thing(self):
        for field in FIELDS + OTHER_TOPS:
            known = table(field)
            for one in known.things[1:]:
                self.assertEqual(round_of(field, one), known.round(one), (field, one))

    def test_root_of_each_divisor(self):
        for field in FIELDS + OTHER_TOPS:
            known = table(field)
            for n in range(1, known.size):
                if (known.size - 1) % n == 0:
                    least = next(one for one in known.things[1:] if known.round(one) == n)
                    self.assertEqual(root_of(field, n), least, (field, n))

    def test_root_of_other_numbers(self):
        for field in FIELDS + OTHER_TOPS:
            others = many_things(field) - 1
            for n in [k for k in range(1, others) if others % k] + [others + 1, 2 * others, 3 * others, others * GREAT,
                                                                   GREAT]:
                if others % n:
                    with self.assertRaises(NoRoot):
                        root_of(field, n)
        with self.assertRaises(NoRoot):
            root_of((2, 1, 0), 2)
        with self.assertRaises(NoRoot):
            root_of((2, 3, 3), 0)

    def test_behind_a_refusal_the_next_is_answered(self):
        field = (2, 4, 3)
        for _ in range(2):
            with self.assertRaises(NoRoot):
                root_of(field, 7)
            self.assertEqual(root_of(field, 15), 2)
            with self.assertRaises(ByNought):
                over(field, 3, 0)
            self.assertEqual(over(field, 3, 1), 3)


class Promise(unittest.TestCase):
    def test_both_orders_and_however_put_together(self):
        for field in SMALL:
            for a, b in itertools.product(range(many_things(field)), repeat=2):
                self.assertEqual(plus(field, a, b), plus(field, b, a))
                self.assertEqual(times(field, a, b), times(field, b, a))
        for field in [field for field in SMALL if many_things(field) <= 9]:
            for a, b, c in itertools.product(range(many_things(field)), repeat=3):
                self.assertEqual(plus(field, plus(field, a, b), c), plus(field, a, plus(field, b, c)))
                self.assertEqual(times(field, times(field, a, b), c), times(field, a, times(field, b, c)))

    def test_times_goes_over_plus(self):
        for field in [field for field in SMALL if many_things(field) <= 9]:
            for a, b, c in itertools.product(range(many_things(field)), repeat=3):
                self.assertEqual(times(field, a, plus(field, b, c)), plus(field, times(field, a, b), times(field, a, c)))

    def test_in_greater_fields_for_some(self):
        for field in [least_field(2, 6), least_field(7, 2), least_field(3, 3), least_field(61, 1), (2, 6, 33)]:
            some = range(0, many_things(field), 5)
            for a, b, c in itertools.product(some, repeat=3):
                self.assertEqual(plus(field, plus(field, a, b), c), plus(field, a, plus(field, b, c)))
                self.assertEqual(times(field, times(field, a, b), c), times(field, a, times(field, b, c)))
                self.assertEqual(times(field, a, plus(field, b, c)), plus(field, times(field, a, b), times(field, a, c)))

    def test_just_one_brings_each_thing_but_nought_to_one(self):
        for field in FIELDS + OTHER_TOPS:
            things = range(many_things(field))
            for one in things:
                many = len([other for other in things if times(field, one, other) == 1])
                self.assertEqual(many, 0 if one == 0 else 1, (field, one))


if __name__ == "__main__":
    unittest.main()
