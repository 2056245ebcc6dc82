import unittest

import plainly
import plainmending
import plainwheels
from plainly import table
from plainmending import LONG
from plainwheels import EIGHT, SIX, SMALL

from roundwords.bounds import best_row
from roundwords.mending import faults, mended
from roundwords.mendlooks import shows_mended
from roundwords.words import is_word

HAMMING = ((2, 3, 3), 1, 2, (1, 2, 4))


class Checks(unittest.TestCase):
    def check(self, wheel, paper, got, asked):
        """asked: the word that is so near, or None."""
        where = (wheel, paper, got)
        told = mended(wheel, paper, got)
        self.assertEqual(told, asked, where)
        found = faults(wheel, paper, got)
        if asked is None:
            self.assertIsNone(told)
            self.assertIsNone(found, where)
            return
        self.assertTrue(plainly.is_numbers(told))
        self.assertTrue(type(found) is tuple and all(plainly.is_numbers(fault) for fault in found))
        known = table(wheel[0])
        unlike = [(k, known.sums[got[k]][known.negative(asked[k])]) for k in range(len(got)) if got[k] != asked[k]]
        self.assertEqual(found, tuple(unlike), where)


class EachTuple(Checks):
    def test_small_wheels_word_by_word(self):
        for base in SMALL:
            tuples = list(plainwheels.all_noughts(*base))
            for wheel in plainmending.some(plainwheels.wheels(*base), 8):
                every = plainwheels.words(wheel)
                papers = plainmending.some(plainmending.row_papers(wheel), 12) + [best_row(wheel)]
                for paper in papers:
                    for got in plainmending.some(tuples, 25):
                        near = plainmending.near(every, got, paper[2])
                        self.assertLessEqual(len(near), 1, (wheel, paper, got))
                        self.check(wheel, paper, got, near[0] if near else None)

    def test_all_tuples_of_seven_and_by_all_papers(self):
        tuples = list(plainwheels.all_noughts(*HAMMING[:3]))
        for wheel in [HAMMING, HAMMING[:3] + ((0, 3, 5, 6),), HAMMING[:3] + ((1, 2, 3, 4, 5, 6),)]:
            every = plainwheels.words(wheel)
            for got in tuples:
                near = plainmending.near(every, got, best_row(wheel)[2])
                self.check(wheel, best_row(wheel), got, near[0] if near else None)
            for paper in plainmending.row_papers(wheel):
                for got in tuples[5::31]:
                    near = plainmending.near(every, got, paper[2])
                    self.check(wheel, paper, got, near[0] if near else None)

    def test_eight_places(self):
        tuples = list(plainwheels.all_noughts(*EIGHT))
        for wheel in plainmending.some(plainwheels.wheels(*EIGHT), 6):
            every = plainwheels.words(wheel)
            for paper in plainmending.some(plainmending.row_papers(wheel), 4) + [best_row(wheel)]:
                for got in plainmending.some(tuples, 12):
                    near = plainmending.near(every, got, paper[2])
                    self.assertLessEqual(len(near), 1)
                    self.check(wheel, paper, got, near[0] if near else None)


class Drawn(Checks):
    def test_the_long_ones_are_wheels_with_their_best_papers(self):
        for wheel, paper in LONG:
            self.assertTrue(plainwheels.is_wheel(wheel), wheel)
            self.assertEqual(best_row(wheel), paper)

    def test_faults_at_up_to_half_the_many_places(self):
        draw = plainmending.drawer(11)
        for wheel, own, n, paper in plainmending.long_cases():
            for many in range(paper[2] // 2 + 1):
                word = plainmending.drawn_word(draw, wheel)
                got = plainmending.spoilt(draw, own, word, draw.sample(range(n), many))
                self.check(wheel, paper, got, word)
                # The same is told when asked again.
                self.check(wheel, paper, got, word)

    def test_the_first_and_the_last_places(self):
        draw = plainmending.drawer(12)
        for wheel, paper in LONG:
            own = table(wheel[0]).letters(wheel[1])
            n = plainwheels.length(wheel[0], wheel[2])
            many = paper[2] // 2
            for chosen in (range(many), range(n - many, n)):
                word = plainmending.drawn_word(draw, wheel)
                self.check(wheel, paper, plainmending.spoilt(draw, own, word, chosen), word)

    def test_more_faults_than_that(self):
        draw = plainmending.drawer(13)
        told_none = 0
        for wheel, own, n, paper in plainmending.long_cases():
            for many in sorted({min(n, paper[2] // 2 + k) for k in (1, 2, 4)}):
                word = plainmending.drawn_word(draw, wheel)
                got = plainmending.spoilt(draw, own, word, draw.sample(range(n), many))
                told = mended(wheel, paper, got)
                self.assertIs(told is None, faults(wheel, paper, got) is None)
                if told is None:
                    told_none += 1
                else:
                    self.assertNotEqual(told, word)
                    self.assertIs(is_word(wheel, told), True)
                    self.assertLessEqual(2 * plainmending.unlike(told, got), paper[2])
        self.assertGreater(told_none, 100)

    def test_one_fault_more_than_half_in_a_paper_of_odd_many(self):
        # The least is many + 1 here, so no word is so near where just (many + 1) / 2 places are at fault.
        draw = plainmending.drawer(14)
        wheel = ((2, 4, 3), 4, 2, tuple(range(1, 6)))
        for _ in range(20):
            word = plainmending.drawn_word(draw, wheel)
            three = plainmending.spoilt(draw, range(16), word, draw.sample(range(15), 3))
            self.check(wheel, (1, 1, 5), three, None)
            two = plainmending.spoilt(draw, range(16), word, draw.sample(range(15), 2))
            self.check(wheel, (1, 1, 5), two, word)
            self.check(wheel, (1, 1, 4), two, word)
            self.check(wheel, (1, 1, 3), two, None)


class Edges(Checks):
    def test_words_themselves(self):
        for base in SMALL:
            for wheel in plainmending.some(plainwheels.wheels(*base), 8):
                for paper in plainmending.some(plainmending.row_papers(wheel), 5):
                    for word in plainmending.some(plainwheels.words(wheel), 8):
                        self.assertEqual(faults(wheel, paper, word), ())
                        self.assertEqual(mended(wheel, paper, word), word)

    def test_papers_of_none_and_one(self):
        for base in SMALL:
            tuples = list(plainwheels.all_noughts(*base))
            for wheel in plainmending.some(plainwheels.wheels(*base), 6):
                every = set(plainwheels.words(wheel))
                for paper in plainmending.some([paper for paper in plainmending.row_papers(wheel) if paper[2] < 2], 8):
                    for got in plainmending.some(tuples, 25):
                        self.check(wheel, paper, got, got if got in every else None)

    def test_one_word_alone(self):
        for base in SMALL:
            n = plainwheels.length(base[0], base[2])
            wheel = base + (tuple(range(n)),)
            for paper in [(0, 1, n), (n - 1, max(1, n - 1), n), (0, 1, n - 1)]:
                for got in plainmending.some(list(plainwheels.all_noughts(*base)), 40):
                    near = 2 * plainmending.unlike(got, (0,) * n) <= paper[2]
                    self.check(wheel, paper, got, (0,) * n if near else None)

    def test_worths_that_are_no_letters(self):
        for wheel, paper in [(HAMMING[:3] + ((1, 2, 3, 4, 5, 6),), (2, 1, 2)), (EIGHT + ((2, 5, 6, 7),), (2, 3, 2)),
                             (((2, 4, 3), 2, 8, (1, 2, 3, 4)), (1, 1, 2))]:
            own = table(wheel[0]).letters(wheel[1])
            outside = 0
            for got in plainmending.some(list(plainwheels.all_noughts(*wheel[:3])), 128):
                told = plainmending.sums(wheel, paper, got)
                gap, long, row = plainmending.nearing(wheel[0], told)[-1]
                if 2 * long > paper[2] or len(plainmending.places(wheel, paper, row)) != long:
                    continue
                if any(worth not in own for worth in plainmending.worths(wheel, paper, told, row)):
                    outside += 1
                    self.check(wheel, paper, got, None)
            self.assertGreater(outside, 9)

    def test_by_hand(self):
        self.assertEqual(faults(HAMMING, (1, 1, 2), (1, 1, 0, 1, 0, 1, 0)), ((5, 1),))
        self.assertEqual(mended(HAMMING, (1, 1, 2), (1, 1, 0, 1, 0, 1, 0)), (1, 1, 0, 1, 0, 0, 0))
        self.assertIsNone(faults(HAMMING, (1, 1, 1), (1, 1, 0, 1, 0, 1, 0)))
        self.assertIsNone(mended(HAMMING, (2, 3, 0), (1, 1, 0, 1, 0, 1, 0)))
        even = HAMMING[:3] + ((0, 1, 2, 4),)
        self.assertEqual(faults(even, (0, 1, 3), (0, 0, 0, 0, 0, 0, 1)), ((6, 1),))
        self.assertIsNone(faults(even, (0, 1, 3), (0, 0, 0, 0, 1, 0, 1)))
        self.assertEqual(faults(((7, 1, 0), 1, 3, (0, 1)), (0, 1, 2), (0, 5, 0, 0, 0, 0)), ((1, 5),))

    def test_what_is_mended_is_taken(self):
        for base in [SIX, ((2, 3, 3), 1, 5), ((5, 1, 0), 1, 3)]:
            draw = plainmending.drawer(15)
            own = table(base[0]).letters(base[1])
            n = plainwheels.length(base[0], base[2])
            for wheel in plainmending.some(plainwheels.wheels(*base), 10):
                for _ in range(20):
                    got = plainmending.drawn(draw, own, n)
                    told = mended(wheel, best_row(wheel), got)
                    self.assertIs(shows_mended(wheel, best_row(wheel), got, told), told is not None)


if __name__ == "__main__":
    unittest.main()
