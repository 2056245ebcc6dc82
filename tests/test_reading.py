import itertools
import unittest

import plainly
import plainmending
import plaintexts
import plainwheels
from plainly import is_numbers, parts_nought
from plaintexts import ODD_TEXTS

from roundwords.errors import NoText
from roundwords.reading import read_field, read_numbers, read_wheel

WHEEL = "2.3.3/1/2/1.2.4"


def is_field(thing):
    if len(thing) != 3:
        return False
    p, m, top = thing
    return p in plainly.PRIMES and 1 <= m <= 6 and p ** m <= 64 and top < p ** m and not parts_nought(thing)


class Checks(unittest.TestCase):
    def refuses(self, what, thing, where=None):
        with self.assertRaises(NoText, msg=where) as kept:
            what(thing)
        self.assertIs(type(kept.exception), NoText)

    def check(self, what, thing, asked):
        """asked: what is written so, or None."""
        for _ in range(2):
            if asked is None:
                self.refuses(what, thing, thing)
            else:
                told = what(thing)
                self.assertTrue(type(told) is tuple and plainly.is_plain(told))
                self.assertEqual(told, asked, thing)


def field_in(text):
    found = plaintexts.numbers(text)
    return found if found is not None and is_field(found) else None


def wheel_in(text):
    parts = text.split("/")
    if len(parts) != 4:
        return None
    field, few, root, marks = [plaintexts.numbers(part) for part in parts]
    if None in (field, few, root, marks) or len(few) != 1 or len(root) != 1 or not is_field(field):
        return None
    wheel = (field, few[0], root[0], marks)
    return wheel if plainwheels.is_wheel(wheel) else None


class Anything(Checks):
    def test_anything_that_is_no_text(self):
        for what in (read_numbers, read_field, read_wheel):
            for at, thing in enumerate(plainly.anything()):
                if type(thing) is not str:
                    self.refuses(what, thing, at)
            for thing in [None, True, False, 5, 0, -3, (), (1,), (2, 3, 3), [2, 3, 3], ["-"], ("-",), {"-": "-"}, {WHEEL},
                          b"2.3.3", WHEEL.encode(), b"-", ((2, 3, 3), 1, 2, (1, 2, 4)), [WHEEL], (WHEEL,), {WHEEL: 1}]:
                self.refuses(what, thing)

    def test_odd_texts(self):
        for text in ODD_TEXTS + [thing for thing in plainly.anything() if type(thing) is str]:
            self.check(read_numbers, text, plaintexts.numbers(text))
            self.check(read_field, text, field_in(text))
            self.check(read_wheel, text, wheel_in(text))

    def test_odd_texts_are_no_wheels(self):
        for text in ODD_TEXTS:
            self.refuses(read_wheel, text)
            self.refuses(read_field, text)
            for put in (f"2.3.3/{text}/2/1.2.4", f"2.3.3/1/{text}/1.2.4", f"{text}/1/2/1.2.4", f"2.3.3/1/2/{text}"):
                self.check(read_wheel, put, wheel_in(put))


class Numbers(Checks):
    def test_all_short_texts(self):
        told = 0
        for many in range(6):
            for signs in itertools.product("019.-/", repeat=many):
                text = "".join(signs)
                asked = plaintexts.numbers(text)
                told += asked is not None
                if asked is None:
                    self.refuses(read_numbers, text, text)
                else:
                    self.assertEqual(read_numbers(text), asked)
        self.assertGreater(told, 200)

    def test_all_short_texts_with_other_signs(self):
        for many in range(4):
            for signs in itertools.product("05. -+_\n\t\u0665a", repeat=many):
                self.check(read_numbers, "".join(signs), plaintexts.numbers("".join(signs)))

    def test_the_greatest_number(self):
        self.check(read_numbers, "1000000000", (10 ** 9,))
        self.check(read_numbers, "999999999", (10 ** 9 - 1,))
        self.check(read_numbers, "0.1000000000.0", (0, 10 ** 9, 0))
        for text in ("1000000001", "1000000010", "2000000000", "9999999999", "10000000000", "0.1000000001", "1000000001.0",
                     "9" * 4301, "1" + "0" * 10000, "0." + "9" * 10 ** 5):
            self.refuses(read_numbers, text)

    def test_by_hand(self):
        self.check(read_numbers, "-", ())
        self.check(read_numbers, "0", (0,))
        self.check(read_numbers, "0.1.12", (0, 1, 12))
        self.check(read_numbers, "5.5.5", (5, 5, 5))
        self.assertTrue(is_numbers(read_numbers("0.1.12")))
        for text in ("", "0.1.", ".0", "00", "01", "1..2", "-0", "+0", "0-", "-.-", "0.-", " 0", "0 ", "0\n", "\u0660"):
            self.refuses(read_numbers, text)


class Fields(Checks):
    def test_all_small_numbers(self):
        for p, m, top in itertools.product(range(11), range(5), range(12)):
            asked = (p, m, top) if is_field((p, m, top)) else None
            self.check(read_field, f"{p}.{m}.{top}", asked)

    def test_all_sizes_and_beyond(self):
        for p, m in plainly.SIZES:
            field = plainly.least_field(p, m)
            self.check(read_field, plaintexts.show(field), field)
            self.refuses(read_field, f"{p}.{m}.{p ** m}")
        for text in ("67.1.0", "2.7.3", "1.1.0", "0.1.0", "4.1.0", "2.0.0", "2.3.0", "2.2.1", "2.3", "2.3.3.0", "-", "2", "",
                     "1000000000.1.0", "2.1000000000.0", "2.3.1000000000", "2.3.3 ", "2.3.3\n", "2,3,3", "02.3.3"):
            self.refuses(read_field, text)


class Wheels(Checks):
    def test_all_marks(self):
        for many in range(8):
            for marks in itertools.combinations(range(8), many):
                text = "2.3.3/1/2/" + plaintexts.show(marks)
                self.check(read_wheel, text, wheel_in(text))

    def test_all_small_few_and_roots(self):
        for few, root in itertools.product(range(6), range(18)):
            for marks in ("-", "0", "1.2.4.8", "1.4", "5.10", "1", "0.5", "3"):
                text = f"2.4.3/{few}/{root}/{marks}"
                self.check(read_wheel, text, wheel_in(text))

    def test_what_is_no_wheel(self):
        for text in ("2.3.3/1/2/1.2", "2.3.3/1/2/2.1.4", "2.3.3/1/2/1.2.4.7", "2.3.3/1/2/1.1.2.4", "2.3.3/2/2/-",
                     "2.3.3/0/2/-", "2.3.3/1/0/-", "2.3.3/1/8/-", "2.3.0/1/2/-", "4.1.0/1/1/-", "2.3.3/1/2", "2.3.3",
                     "2.3.3/1/2/-/-", "2.3.3/1/2/1000000000", "2.3.3/1000000000/2/-", "2.3.3/1/1000000000/-", "-/-/-/-",
                     "///", "", "-", "2.3.3/1/2/1.2.4\n", "2.3.3\\1\\2\\1.2.4", "2.3.3/1/2/{1.2.4}"):
            self.refuses(read_wheel, text)

    def test_one_sign_otherwise(self):
        for at in range(len(WHEEL) + 1):
            for sign in "012./- \n\u0661":
                for text in (WHEEL[:at] + sign + WHEEL[at:], WHEEL[:at] + sign + WHEEL[at + 1:], WHEEL[:at] + WHEEL[at + 1:]):
                    self.check(read_wheel, text, wheel_in(text))

    def test_drawn_texts(self):
        draw = plainmending.drawer(91)
        for _ in range(3000):
            text = "".join(draw.choice("0123.//-") for _ in range(draw.randrange(14)))
            self.check(read_wheel, text, wheel_in(text))

    def test_by_hand(self):
        self.check(read_wheel, WHEEL, ((2, 3, 3), 1, 2, (1, 2, 4)))
        self.check(read_wheel, "2.3.3/1/2/-", ((2, 3, 3), 1, 2, ()))
        self.check(read_wheel, "2.1.0/1/1/0", ((2, 1, 0), 1, 1, (0,)))


if __name__ == "__main__":
    unittest.main()
