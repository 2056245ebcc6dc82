import unittest

import plainly
import plainwheels
from plainwheels import EIGHT, FIFTEEN, GREAT, NINE, SIX, SMALL

from roundwords.boundlooks import shows_row, shows_wide
from roundwords.bounds import best_row, best_wide
from roundwords.errors import TooMany


class BestRow(unittest.TestCase):
    def test_the_first_of_those_of_the_greatest_many(self):
        for base in SMALL + [SIX, EIGHT, NINE, FIFTEEN]:
            for wheel in plainwheels.wheels(*base):
                told = best_row(wheel)
                self.assertEqual(told, plainwheels.best_row(wheel), wheel)
                self.assertTrue(plainly.is_numbers(told))
                self.assertIs(shows_row(wheel, told), True)
                self.assertEqual(best_row(wheel), told)

    def test_with_letters_of_all_things(self):
        for marks in [(1,), (2, 3), (1, 2, 3), (0, 2, 4, 6), (1, 3, 5), (0, 1, 3, 4, 9), (2, 5, 8, 11, 14), (6, 9, 12)]:
            for wheel in [((2, 4, 3), 4, 2, marks), ((2, 4, 3), 4, 9, marks)]:
                self.assertEqual(best_row(wheel), plainwheels.best_row(wheel), wheel)

    def test_no_marks_and_all(self):
        for base in SMALL + [SIX, EIGHT, FIFTEEN, GREAT]:
            n = plainwheels.length(base[0], base[2])
            self.assertEqual(best_row(base + ((),)), (0, 1, 0))
            self.assertEqual(best_row(base + (tuple(range(n)),)), (0, 1, n))

    def test_one_place_alone(self):
        self.assertEqual(best_row(((2, 1, 0), 1, 1, ())), (0, 1, 0))
        self.assertEqual(best_row(((2, 1, 0), 1, 1, (0,))), (0, 1, 1))

    def test_by_hand(self):
        self.assertEqual(best_row(((2, 3, 3), 1, 2, (1, 2, 4))), (1, 1, 2))
        self.assertEqual(best_row(((2, 3, 3), 1, 2, (0, 1, 2, 4))), (0, 1, 3))
        self.assertEqual(best_row(((2, 3, 3), 1, 2, (3, 5, 6))), (3, 2, 2))
        self.assertEqual(best_row(((2, 4, 3), 1, 2, (1, 2, 3, 4, 6, 8, 9, 12))), (1, 1, 4))
        # By 2 all of (0, 2, 4) stand in a row, but 2 shares a divisor with 6.
        self.assertEqual(best_row(((7, 1, 0), 1, 3, (0, 2, 4))), (0, 1, 1))

    def test_long_ones(self):
        for marks in [(1, 2, 4, 8, 16, 32), (0, 21, 42), (9, 18, 27, 36, 45, 54)]:
            wheel = GREAT + (marks,)
            self.assertEqual(best_row(wheel), plainwheels.best_row(wheel))


class BestWide(unittest.TestCase):
    def test_the_first_of_those_that_tell_most(self):
        for base in SMALL + [SIX, EIGHT]:
            for wheel in plainwheels.wheels(*base):
                told = best_wide(wheel)
                self.assertEqual(told, plainwheels.best_wide(wheel), wheel)
                if told is not None:
                    self.assertTrue(plainly.is_numbers(told))
                    self.assertIs(shows_wide(wheel, told), True)
                self.assertEqual(best_wide(wheel), told)

    def test_longer_ones(self):
        for wheel in plainwheels.wheels(*NINE) + plainwheels.wheels(*FIFTEEN)[3:32:7] + [
                ((2, 4, 3), 4, 2, (0, 1, 3, 4, 9)), ((2, 4, 3), 4, 9, (1, 2, 6, 7, 11, 12)),
                ((2, 4, 3), 4, 2, (0, 1, 3, 4, 6, 7, 9, 10)), ((11, 1, 0), 1, 2, (0, 1, 4, 5, 6))]:
            self.assertEqual(best_wide(wheel), plainwheels.best_wide(wheel), wheel)

    def test_none_only_where_no_mark_is(self):
        for base in SMALL + [SIX, EIGHT, NINE, FIFTEEN]:
            for wheel in plainwheels.wheels(*base):
                self.assertIs(best_wide(wheel) is None, wheel[3] == ())

    def test_all_marks(self):
        for base in SMALL + [SIX, EIGHT, FIFTEEN]:
            n = plainwheels.length(base[0], base[2])
            self.assertEqual(best_wide(base + (tuple(range(n)),)), (0, 1, n, 1, n))

    def test_too_many(self):
        for wheel in [((17, 1, 0), 1, 3, ()), ((17, 1, 0), 1, 3, (0, 1)), ((2, 6, 3), 1, 8, (0,)), GREAT + ((),),
                      GREAT + (tuple(range(63)),)]:
            self.assertGreater(plainwheels.length(wheel[0], wheel[2]), 15)
            for _ in range(2):
                with self.assertRaises(TooMany):
                    best_wide(wheel)
                self.assertEqual(best_wide(((2, 1, 0), 1, 1, (0,))), (0, 1, 1, 1, 1))
        self.assertIsNone(best_wide(FIFTEEN + ((),)))


class Tells(unittest.TestCase):
    def test_no_two_words_are_nearer_than_a_best_paper_tells(self):
        for base in SMALL + [EIGHT]:
            for wheel in plainwheels.wheels(*base):
                weights = [len(word) - word.count(0) for word in plainwheels.words(wheel) if any(word)]
                if not weights:
                    continue
                self.assertGreaterEqual(min(weights), best_row(wheel)[2] + 1)
                wide = best_wide(wheel)
                if wide is not None:
                    self.assertGreaterEqual(min(weights), wide[2] + 1 + wide[4], wheel)


if __name__ == "__main__":
    unittest.main()
