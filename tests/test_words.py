import itertools
import unittest

import plainly
import plainwheels
from plainly import table
from plainwheels import EIGHT, FIFTEEN, GREAT, NINE, SIX, SMALL

from roundwords.errors import TooMany
from roundwords.rounds import rounded, word_sum, word_times
from roundwords.words import checker, free, how_many, is_word, made, maker, words

HAMMING = ((2, 3, 3), 1, 2, (1, 2, 4))


def small_wheels():
    return [wheel for base in SMALL for wheel in plainwheels.wheels(*base)]


def widened(row, n):
    return row + (0,) * (n - len(row))


class IsWord(unittest.TestCase):
    def test_each_tuple_of_letters(self):
        for base in SMALL:
            every = plainwheels.all_noughts(*base)
            if len(every) > 700:
                continue
            for wheel in plainwheels.wheels(*base):
                for row, found in every.items():
                    self.assertIs(is_word(wheel, row), set(wheel[3]) <= found, (wheel, row))

    def test_some_longer_ones(self):
        for base in (EIGHT, NINE, ((2, 4, 3), 2, 8)):
            every = list(plainwheels.all_noughts(*base).items())
            for wheel in plainwheels.wheels(*base):
                for row, found in every[::97]:
                    self.assertIs(is_word(wheel, row), set(wheel[3]) <= found, (wheel, row))

    def test_one_letter_otherwise(self):
        for word in plainwheels.words(HAMMING):
            self.assertIs(is_word(HAMMING, word), True)
            for at in range(7):
                other = word[:at] + (1 - word[at],) + word[at + 1:]
                self.assertIs(is_word(HAMMING, other), False)

    def test_one_letter_more_or_fewer(self):
        for wheel in (HAMMING, HAMMING[:3] + ((),), ((2, 1, 0), 1, 1, ()), ((2, 1, 0), 1, 1, (0,))):
            n = plainwheels.length(wheel[0], wheel[2])
            self.assertIs(is_word(wheel, (0,) * n), True)
            for many in (n - 1, n + 1, 2 * n + 1, 0):
                self.assertIs(is_word(wheel, (0,) * many), False)

    def test_things_that_are_no_letters(self):
        no_marks = HAMMING[:3] + ((),)
        for thing in (2, 3, 7, 8, -1, 10 ** 40, -10 ** 40):
            for at in range(7):
                row = (0,) * at + (thing,) + (0,) * (6 - at)
                self.assertIs(is_word(no_marks, row), False, row)
        of_four = ((2, 4, 3), 2, 8, ())
        for thing in range(-1, 18):
            self.assertIs(is_word(of_four, (0, 0, thing, 0, 0)), thing in (0, 1, 6, 7), thing)
        # Nought at all marks, but of things that are no letters.
        word = plainwheels.words(HAMMING)[5]
        self.assertIs(is_word(HAMMING, word_times((2, 3, 3), 3, word)), False)

    def test_truths_and_lists(self):
        word = plainwheels.words(HAMMING)[5]
        self.assertIs(is_word(HAMMING, word), True)
        self.assertIs(is_word(HAMMING, list(word)), False)
        self.assertIs(is_word(HAMMING, tuple(bool(letter) for letter in word)), False)
        self.assertIs(is_word(HAMMING, (False,) + (0,) * 6), False)
        self.assertIs(is_word(HAMMING, (0,) * 6 + (False,)), False)
        self.assertIs(is_word(HAMMING, bytes(word)), False)
        self.assertIs(is_word(HAMMING, range(7)), False)

    def test_anything(self):
        alone = ((7, 1, 3), 1, 1, ())
        for at, thing in enumerate(plainly.anything()):
            self.assertIs(is_word(HAMMING, thing), False, at)
            if type(thing) is int and 0 <= thing < 7:
                self.assertIs(is_word(alone, (thing,)), True, at)
                continue
            self.assertIs(is_word(alone, (thing,)), False, at)
            self.assertIs(is_word(HAMMING[:3] + ((),), (0, 0, 0, thing, 0, 0, 0)), type(thing) is int and 0 <= thing < 2,
                          at)


class Rows(unittest.TestCase):
    def test_maker_and_checker(self):
        for wheel in small_wheels() + plainwheels.wheels(*EIGHT) + plainwheels.wheels(*FIFTEEN):
            field, few, root, marks = wheel
            known = table(field)
            n = plainwheels.length(field, root)
            others = [i for i in range(n) if i not in marks]
            self.assertEqual(maker(wheel), plainwheels.maker(field, root, marks), wheel)
            self.assertEqual(checker(wheel), plainwheels.maker(field, root, others), wheel)
            own = known.letters(few)
            for row in (maker(wheel), checker(wheel)):
                self.assertTrue(plainly.is_numbers(row))
                self.assertTrue(all(letter in own for letter in row), wheel)
            whole = (known.negative(1),) + (0,) * (n - 1) + (1,)
            self.assertEqual(known.row_times(maker(wheel), checker(wheel)), whole)

    def test_no_marks_and_all(self):
        for base in SMALL + [SIX, FIFTEEN, GREAT]:
            field, few, root = base
            n = plainwheels.length(field, root)
            whole = (table(field).negative(1),) + (0,) * (n - 1) + (1,)
            self.assertEqual(maker(base + ((),)), (1,))
            self.assertEqual(checker(base + ((),)), whole)
            self.assertEqual(maker(base + (tuple(range(n)),)), whole)
            self.assertEqual(checker(base + (tuple(range(n)),)), (1,))

    def test_by_hand(self):
        self.assertEqual(maker(HAMMING), (1, 1, 0, 1))
        self.assertEqual(checker(HAMMING), (1, 1, 1, 0, 1))
        self.assertEqual(maker(((7, 1, 0), 1, 3, (0, 1))), (3, 3, 1))


class Numbers(unittest.TestCase):
    def test_free_and_how_many(self):
        for wheel in small_wheels() + plainwheels.wheels(*EIGHT) + plainwheels.wheels(*NINE):
            self.assertEqual(free(wheel), plainwheels.length(wheel[0], wheel[2]) - len(wheel[3]))
            self.assertEqual(how_many(wheel), len(plainwheels.words(wheel)), wheel)
            self.assertIs(type(free(wheel)), int)
            self.assertIs(type(how_many(wheel)), int)

    def test_great_ones(self):
        self.assertEqual(how_many(((2, 6, 3), 6, 2, ())), 64 ** 63)
        self.assertEqual(how_many(((2, 6, 3), 3, 2, ())), 8 ** 63)
        self.assertEqual(how_many(((2, 6, 3), 6, 2, tuple(range(63)))), 1)
        self.assertEqual(free(((2, 6, 3), 6, 2, tuple(range(63)))), 0)


class Made(unittest.TestCase):
    def test_of_each_tuple_of_free_letters_just_one(self):
        for wheel in small_wheels() + plainwheels.wheels(*EIGHT)[::5] + plainwheels.wheels(*NINE):
            n = plainwheels.length(wheel[0], wheel[2])
            bound = len(wheel[3])
            by_end = {}
            for word in plainwheels.words(wheel):
                by_end.setdefault(word[bound:], []).append(word)
            every = list(itertools.product(table(wheel[0]).letters(wheel[1]), repeat=n - bound))
            self.assertEqual(sorted(by_end), every)
            for given in every[::max(1, len(every) // 150)]:
                told = made(wheel, given)
                self.assertTrue(plainly.is_numbers(told))
                self.assertEqual([told], by_end[given], (wheel, given))
                self.assertEqual(made(wheel, given), told)

    def test_noughts_one_letter_alone_and_none(self):
        for base in SMALL + [SIX, FIFTEEN, GREAT]:
            n = plainwheels.length(base[0], base[2])
            self.assertEqual(made(base + (tuple(range(n)),), ()), (0,) * n)
            self.assertEqual(made(base + ((),), (0,) * n), (0,) * n)
            for at in range(n):
                alone = (0,) * at + (1,) + (0,) * (n - at - 1)
                self.assertEqual(made(base + ((),), alone), alone)
        for wheel in plainwheels.wheels(*FIFTEEN):
            many = 15 - len(wheel[3])
            self.assertEqual(made(wheel, (0,) * many), (0,) * 15)
            for at in range(many):
                given = (0,) * at + (1,) + (0,) * (many - at - 1)
                told = made(wheel, given)
                self.assertEqual(len(told), 15)
                self.assertEqual(told[15 - many:], given)
                self.assertLessEqual(set(wheel[3]), plainwheels.noughts(wheel[0], wheel[2], told))

    def test_long_ones(self):
        for wheel, given in [(((2, 6, 3), 6, 2, tuple(range(1, 7))), tuple(range(57))),
                             (((7, 2, 3), 2, 8, (0, 1, 2, 3)), None), (((61, 1, 0), 1, 2, (1, 2, 3)), None)]:
            n = plainwheels.length(wheel[0], wheel[2])
            size = wheel[0][0] ** wheel[0][1]
            given = given or tuple(k * k % size for k in range(n - len(wheel[3])))
            told = made(wheel, given)
            self.assertEqual(len(told), n)
            self.assertEqual(told[len(wheel[3]):], given)
            self.assertLessEqual(set(wheel[3]), plainwheels.noughts(wheel[0], wheel[2], told))

    def test_by_hand(self):
        self.assertEqual(made(HAMMING, (1, 0, 0, 0)), (1, 1, 0, 1, 0, 0, 0))
        self.assertEqual(made(HAMMING, (0, 0, 0, 0)), (0,) * 7)


class Words(unittest.TestCase):
    def test_all_rising_each_once(self):
        for wheel in small_wheels() + plainwheels.wheels(*NINE) + plainwheels.wheels(*EIGHT):
            if how_many(wheel) > 4096:
                continue
            told = words(wheel)
            self.assertTrue(type(told) is tuple and all(plainly.is_numbers(word) for word in told))
            self.assertEqual(told, plainwheels.words(wheel), wheel)
        self.assertEqual(words(HAMMING), words(HAMMING))

    def test_just_4096(self):
        for wheel in [FIFTEEN + ((0, 5, 10),), ((2, 6, 3), 6, 2, tuple(range(61))), ((2, 4, 3), 4, 2, tuple(range(3, 15))),
                      ((2, 3, 3), 3, 2, (0, 3, 6))]:
            self.assertEqual(how_many(wheel), 4096)
            told = words(wheel)
            self.assertEqual(len(told), 4096)
            self.assertEqual(list(told), sorted(set(told)))
            n = plainwheels.length(wheel[0], wheel[2])
            own = table(wheel[0]).letters(wheel[1])
            for word in told[::7] if n < 20 else told[::101]:
                self.assertTrue(len(word) == n and all(letter in own for letter in word))
                self.assertLessEqual(set(wheel[3]), plainwheels.noughts(wheel[0], wheel[2], word))

    def test_too_many(self):
        for wheel in [FIFTEEN + ((5, 10),), FIFTEEN + ((),), GREAT + ((),), ((2, 6, 3), 6, 2, tuple(range(60))),
                      ((2, 6, 3), 6, 2, ()), EIGHT + ((),), ((17, 1, 0), 1, 3, tuple(range(13)))]:
            for _ in range(2):
                with self.assertRaises(TooMany):
                    words(wheel)
                self.assertEqual(words(((2, 2, 3), 1, 2, (0,))), ((0, 0, 0), (0, 1, 1), (1, 0, 1), (1, 1, 0)))


class Promise(unittest.TestCase):
    def test_the_multiples_of_maker(self):
        for wheel in small_wheels():
            field, few, root, marks = wheel
            if how_many(wheel) > 700:
                continue
            known = table(field)
            n = plainwheels.length(field, root)
            multiples = set()
            for by in itertools.product(known.letters(few), repeat=free(wheel)):
                multiples.add(widened(known.row_times(maker(wheel), plainly.trimmed(by)), n))
            self.assertEqual(tuple(sorted(multiples)), words(wheel))
            self.assertEqual(len(multiples), how_many(wheel))

    def test_sums_letters_times_words_and_rounds_are_words(self):
        for wheel in small_wheels():
            every = words(wheel)
            own = table(wheel[0]).letters(wheel[1])
            inside = set(every)
            some = every[::max(1, len(every) // 12)]
            for one, other in itertools.product(some, repeat=2):
                self.assertIn(word_sum(wheel[0], one, other), inside)
            for word in some:
                for letter in own:
                    self.assertIn(word_times(wheel[0], letter, word), inside)
                for by in range(-2, len(word) + 1):
                    self.assertIn(rounded(word, by), inside)

    def test_of_each_row_of_free_letters_just_one(self):
        for wheel in small_wheels():
            every = words(wheel)
            bound = len(wheel[3])
            self.assertEqual(len({word[bound:] for word in every}), len(every))
            for word in every[::max(1, len(every) // 20)]:
                self.assertEqual(made(wheel, word[bound:]), word)


if __name__ == "__main__":
    unittest.main()
