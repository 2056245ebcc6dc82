import itertools
import unittest

import plainly
import plainmending
import plainwheels
from plainly import table
from plainmending import LONG
from plainwheels import EIGHT, FIFTEEN, GREAT, SIX, SMALL

from roundwords.errors import TooMany
from roundwords.lost import mended_lost
from roundwords.lostlooks import shows_lost
from roundwords.mending import mended

HAMMING = ((2, 3, 3), 1, 2, (1, 2, 4))
EVEN = ((2, 3, 3), 1, 2, (0, 1, 2, 4))


def choices(n, most):
    """All rising tuples of at most so many places."""
    return [chosen for many in range(most + 1) for chosen in itertools.combinations(range(n), many)]


class Checks(unittest.TestCase):
    def check(self, wheel, paper, got, lost, asked):
        """asked: the word that is so near, or None."""
        told = mended_lost(wheel, paper, got, lost)
        self.assertEqual(told, asked, (wheel, paper, got, lost))
        if asked is not None:
            self.assertTrue(plainly.is_numbers(told))
            self.assertIs(shows_lost(wheel, paper, got, lost, told), True)


class EachTuple(Checks):
    def by_words(self, wheel, paper, got, lost):
        near = plainmending.near(plainwheels.words(wheel), got, paper[2], lost)
        self.assertLessEqual(len(near), 1, (wheel, paper, got, lost))
        self.check(wheel, paper, got, lost, near[0] if near else None)

    def test_small_wheels_word_by_word(self):
        for base in SMALL:
            n = plainwheels.length(base[0], base[2])
            tuples = list(plainwheels.all_noughts(*base))
            for wheel in plainmending.some(plainwheels.wheels(*base), 6):
                for paper in plainmending.some(plainmending.row_papers(wheel), 7):
                    for lost in plainmending.some(choices(n, paper[2]), 8):
                        for got in plainmending.some(tuples, 6):
                            self.by_words(wheel, paper, got, lost)

    def test_seven_places(self):
        tuples = list(plainwheels.all_noughts(*HAMMING[:3]))
        for wheel, paper in [(HAMMING, (1, 1, 2)), (EVEN, (0, 1, 3)), (HAMMING[:3] + ((1, 2, 3, 4, 5, 6),), (6, 6, 6)),
                             (HAMMING[:3] + (tuple(range(7)),), (5, 3, 7))]:
            for lost in plainmending.some(choices(7, paper[2]), 22):
                for got in tuples[3::9]:
                    self.by_words(wheel, paper, got, lost)

    def test_papers_that_are_not_the_best(self):
        tuples = list(plainwheels.all_noughts(*HAMMING[:3]))
        wheel = HAMMING[:3] + ((1, 2, 3, 4, 5, 6),)
        for paper in plainmending.some(plainmending.row_papers(wheel), 30):
            for lost in plainmending.some(choices(7, paper[2]), 6):
                for got in tuples[2::23]:
                    self.by_words(wheel, paper, got, lost)

    def test_eight_places(self):
        tuples = list(plainwheels.all_noughts(*EIGHT))
        for wheel in plainmending.some(plainwheels.wheels(*EIGHT), 6):
            for paper in plainmending.some(plainmending.row_papers(wheel), 4):
                for lost in plainmending.some(choices(8, paper[2]), 5):
                    for got in plainmending.some(tuples, 5):
                        self.by_words(wheel, paper, got, lost)

    def test_small_words_at_all_places_lost_in_turn(self):
        wheel = ((5, 1, 0), 1, 3, (0, 1, 2))
        for lost in choices(4, 3):
            for got in list(plainwheels.all_noughts(*wheel[:3]))[::19]:
                self.by_words(wheel, (0, 1, 3), got, lost)
                self.by_words(wheel, (2, 3, 3), got, lost)


class Drawn(Checks):
    def test_lost_places_with_faults_as_far_as_they_go(self):
        draw = plainmending.drawer(20)
        for wheel, own, n, paper in plainmending.long_cases():
            for f in range(paper[2] + 1):
                chosen = draw.sample(range(n), f + (paper[2] - f) // 2)
                lost = tuple(sorted(chosen[:f]))
                word = plainmending.drawn_word(draw, wheel)
                # All lost places wrong, then some of them right.
                self.check(wheel, paper, plainmending.spoilt(draw, own, word, chosen), lost, word)
                self.check(wheel, paper, plainmending.spoilt(draw, own, word, chosen[f // 2:]), lost, word)

    def test_fewer_faults_than_may_be(self):
        draw = plainmending.drawer(21)
        for wheel, paper in LONG:
            own = table(wheel[0]).letters(wheel[1])
            n = plainwheels.length(wheel[0], wheel[2])
            for f in range(0, paper[2] + 1, 2):
                for many in range((paper[2] - f) // 2 + 1):
                    chosen = draw.sample(range(n), f + many)
                    word = plainmending.drawn_word(draw, wheel)
                    got = plainmending.spoilt(draw, own, word, chosen)
                    self.check(wheel, paper, got, tuple(sorted(chosen[:f])), word)

    def test_lost_places_that_hold_right_letters(self):
        draw = plainmending.drawer(22)
        for wheel, own, n, paper in plainmending.long_cases():
            word = plainmending.drawn_word(draw, wheel)
            for f in range(paper[2] + 1):
                lost = tuple(sorted(draw.sample(range(n), f)))
                self.check(wheel, paper, word, lost, word)

    def test_beyond(self):
        draw = plainmending.drawer(23)
        told_none = 0
        for wheel, own, n, paper in plainmending.long_cases():
            for f in range(paper[2] + 1):
                beyond = min(n, f + (paper[2] - f) // 2 + 1)
                chosen = draw.sample(range(n), beyond)
                lost = tuple(sorted(chosen[:f]))
                word = plainmending.drawn_word(draw, wheel)
                got = plainmending.spoilt(draw, own, word, chosen)
                told = mended_lost(wheel, paper, got, lost)
                if told is None:
                    told_none += 1
                else:
                    self.assertNotEqual(told, word)
                    self.assertIs(shows_lost(wheel, paper, got, lost, told), True)
        self.assertGreater(told_none, 50)

    def test_no_lost_places_is_as_mended(self):
        draw = plainmending.drawer(24)
        for wheel, own, n, paper in plainmending.long_cases():
            for many in (0, 1, 2, 4):
                word = plainmending.drawn_word(draw, wheel)
                got = plainmending.spoilt(draw, own, word, draw.sample(range(n), many))
                self.check(wheel, paper, got, (), mended(wheel, paper, got))


class Edges(Checks):
    def test_too_many(self):
        for wheel in [HAMMING, EVEN, HAMMING[:3] + ((),), SIX + ((0, 1, 2, 3),), FIFTEEN + ((0, 5, 10),)]:
            n = plainwheels.length(wheel[0], wheel[2])
            for paper in plainmending.some(plainmending.row_papers(wheel), 12):
                for f in sorted({paper[2] + 1, n}):
                    for lost in (tuple(range(f)), tuple(range(n - f, n))):
                        for got in ((0,) * n, (1,) + (0,) * (n - 1)):
                            for _ in range(2):
                                with self.assertRaises(TooMany):
                                    mended_lost(wheel, paper, got, lost)
                self.check(wheel, paper, (0,) * n, tuple(range(paper[2])), (0,) * n)

    def test_too_many_of_long_ones(self):
        with self.assertRaises(TooMany):
            mended_lost(GREAT + ((),), (0, 1, 0), (0,) * 63, (5,))
        with self.assertRaises(TooMany):
            mended_lost(GREAT + ((1, 2, 4, 8, 16, 32),), (1, 1, 2), (1,) * 63, (5, 6, 62))

    def test_one_word_alone_and_all_places_lost(self):
        for base in SMALL + [SIX, FIFTEEN]:
            n = plainwheels.length(base[0], base[2])
            wheel = base + (tuple(range(n)),)
            for first, step in [(0, 1), (n - 1, max(1, n - 1))]:
                for got in ((0,) * n, (1,) * n, (1,) + (0,) * (n - 1)):
                    self.check(wheel, (first, step, n), got, tuple(range(n)), (0,) * n)

    def test_none_where_a_fault_seems_to_lie_at_a_lost_place(self):
        # The row of the sums left is nought at a lost place, so that place would be told twice.
        found = 0
        wheel = ((2, 3, 3), 3, 2, (1, 2, 3, 4))
        paper = (1, 1, 4)
        draw = plainmending.drawer(25)
        for _ in range(400):
            got = plainmending.drawn(draw, range(8), 7)
            lost = tuple(sorted(draw.sample(range(7), 2)))
            product = table(wheel[0]).row_times(plainmending.sums(wheel, paper, got),
                                                plainmending.locator(wheel, paper, lost))
            left = (product + (0,) * 4)[2:4]
            gap, long, row = plainmending.nearing(wheel[0], left)[-1]
            if long == 1 and plainmending.places(wheel, paper, row) in [(lost[0],), (lost[1],)]:
                found += 1
                self.check(wheel, paper, got, lost, None)
        self.assertGreater(found, 20)

    def test_by_hand(self):
        word = (1, 1, 0, 1, 0, 0, 0)
        self.assertEqual(mended_lost(HAMMING, (1, 1, 2), word, ()), word)
        self.assertEqual(mended_lost(HAMMING, (1, 1, 2), (0, 1, 0, 1, 0, 0, 0), (0, 1)), word)
        self.assertEqual(mended_lost(HAMMING, (1, 1, 2), (0, 0, 0, 1, 0, 0, 0), (0, 1)), word)
        self.assertEqual(mended_lost(HAMMING, (1, 1, 2), (0, 1, 0, 1, 0, 0, 0), (0,)), word)
        self.assertEqual(mended_lost(HAMMING, (1, 1, 2), (0, 1, 0, 1, 0, 0, 0), ()), word)
        self.assertIsNone(mended_lost(HAMMING, (1, 1, 2), (0, 1, 0, 1, 0, 0, 0), (6,)))
        self.assertIsNone(mended_lost(HAMMING, (1, 1, 1), (0, 1, 0, 1, 0, 0, 0), ()))
        self.assertEqual(mended_lost(EVEN, (0, 1, 3), (1, 0, 0, 0, 0, 0, 1), (6,)), (0,) * 7)


if __name__ == "__main__":
    unittest.main()
