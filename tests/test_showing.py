import itertools
import unittest

import plainly
import plainmending
import plaintexts
import plainwheels
from plainwheels import EIGHT, FIFTEEN, GREAT, NINE, SIX, SMALL

from roundwords.leasts import wide_counts
from roundwords.reading import read_field, read_numbers, read_wheel
from roundwords.showing import show_field, show_numbers, show_wheel
from roundwords.words import how_many


class Numbers(unittest.TestCase):
    def check(self, row):
        told = show_numbers(row)
        self.assertIs(type(told), str)
        self.assertEqual(told, plaintexts.show(row))
        self.assertEqual(show_numbers(row), told)
        return told

    def test_none_one_and_many(self):
        for row, told in [((), "-"), ((0,), "0"), ((7,), "7"), ((10,), "10"), ((0, 1, 12), "0.1.12"), ((0, 0, 0), "0.0.0"),
                          ((10 ** 9,), "1000000000"), ((100, 0, 5), "100.0.5")]:
            self.assertEqual(self.check(row), told)

    def test_read_again_as_they_were(self):
        for many in range(4):
            for row in itertools.product((0, 1, 9, 10, 99, 100, 10 ** 9 - 1, 10 ** 9), repeat=many):
                told = read_numbers(self.check(row))
                self.assertTrue(plainly.is_numbers(told))
                self.assertEqual(told, row)
        for row in (tuple(range(63)), tuple(range(300, 0, -1)), (5,) * 1000):
            self.assertEqual(read_numbers(self.check(row)), row)

    def test_numbers_beyond_what_is_read(self):
        for number in (10 ** 9 + 1, 10 ** 63, 10 ** 64 - 1, 10 ** 64, 10 ** 64 + 5, 10 ** 128, 10 ** 128 - 1, 10 ** 200 + 7,
                       how_many(((2, 6, 3), 6, 2, ())), 7 ** 1000):
            self.assertEqual(self.check((number,)), str(number))
            self.assertEqual(self.check((0, number, 1)), f"0.{number}.1")

    def test_what_was_told_whatever_its_size(self):
        told = show_numbers(wide_counts(2, 20, 3))
        self.assertEqual(told, plaintexts.show(wide_counts(2, 20, 3)))
        # Python itself refuses to write so many figures at once.
        self.assertEqual(show_numbers((10 ** 5000, 3)), "1" + "0" * 5000 + ".3")
        self.assertEqual(show_numbers((10 ** 5000 - 1,)), "9" * 5000)
        self.assertEqual(show_numbers((12 * 10 ** 6000 + 345,)), "12" + "0" * 5997 + "345")


class Fields(unittest.TestCase):
    def test_all_sizes(self):
        for p, m in plainly.SIZES:
            field = plainly.least_field(p, m)
            told = show_field(field)
            self.assertIs(type(told), str)
            self.assertEqual(told, f"{p}.{m}.{field[2]}")
            self.assertEqual(read_field(told), field)
            self.assertTrue(plainly.is_numbers(read_field(told)))

    def test_by_hand(self):
        self.assertEqual(show_field((2, 3, 3)), "2.3.3")
        self.assertEqual(show_field((61, 1, 0)), "61.1.0")


class Wheels(unittest.TestCase):
    def test_read_again_as_they_were(self):
        for base in SMALL + [SIX, EIGHT, NINE, FIFTEEN]:
            for wheel in plainmending.some(plainwheels.wheels(*base), 20):
                told = show_wheel(wheel)
                self.assertIs(type(told), str)
                self.assertEqual(told, plaintexts.show_wheel(wheel))
                self.assertEqual(read_wheel(told), wheel)
                self.assertTrue(plainly.is_plain(read_wheel(told)))
                self.assertEqual(show_wheel(wheel), told)
        for wheel in [wheel for wheel, _ in plainmending.LONG] + [GREAT + ((),), GREAT + (tuple(range(63)),)]:
            self.assertEqual(read_wheel(show_wheel(wheel)), wheel)

    def test_by_hand(self):
        self.assertEqual(show_wheel(((2, 3, 3), 1, 2, (1, 2, 4))), "2.3.3/1/2/1.2.4")
        self.assertEqual(show_wheel(((2, 3, 3), 1, 2, ())), "2.3.3/1/2/-")
        self.assertEqual(show_wheel(((2, 1, 0), 1, 1, (0,))), "2.1.0/1/1/0")


if __name__ == "__main__":
    unittest.main()
