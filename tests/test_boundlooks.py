import itertools
import unittest

import plainly
import plainwheels
from plainwheels import EIGHT, FIFTEEN, NINE, SIX, SMALL

from roundwords.boundlooks import shows_row, shows_wide

HAMMING = ((2, 3, 3), 1, 2, (1, 2, 4))
GREAT = 10 ** 40


class ShowsRow(unittest.TestCase):
    def test_all_numbers_in_reach(self):
        for base in SMALL + [SIX, EIGHT]:
            n = plainwheels.length(base[0], base[2])
            for wheel in plainwheels.wheels(*base)[::3] + [base + ((),), base + (tuple(range(n)),)]:
                for paper in itertools.product(range(-1, n + 3), repeat=3):
                    self.assertIs(shows_row(wheel, paper), plainwheels.shows_row(wheel, *paper), (wheel, paper))

    def test_longer_ones(self):
        for wheel in plainwheels.wheels(*FIFTEEN)[::4] + plainwheels.wheels(*NINE)[::3]:
            for paper in itertools.product(range(-1, 17, 2), range(18), range(17)):
                self.assertIs(shows_row(wheel, paper), plainwheels.shows_row(wheel, *paper), (wheel, paper))

    def test_edges(self):
        self.assertIs(shows_row(HAMMING, (1, 1, 2)), True)
        self.assertIs(shows_row(HAMMING, (1, 1, 3)), False)
        self.assertIs(shows_row(HAMMING, (6, 6, 0)), True)
        self.assertIs(shows_row(HAMMING, (7, 1, 0)), False)
        self.assertIs(shows_row(HAMMING, (-1, 1, 0)), False)
        self.assertIs(shows_row(HAMMING, (0, 0, 0)), False)
        self.assertIs(shows_row(HAMMING, (0, 7, 0)), False)
        self.assertIs(shows_row(HAMMING, (0, 8, 0)), False)
        self.assertIs(shows_row(HAMMING, (0, 1, -1)), False)
        whole = HAMMING[:3] + (tuple(range(7)),)
        self.assertIs(shows_row(whole, (3, 2, 7)), True)
        self.assertIs(shows_row(whole, (3, 2, 8)), False)
        alone = ((2, 1, 0), 1, 1, (0,))
        self.assertIs(shows_row(alone, (0, 1, 1)), True)
        self.assertIs(shows_row(alone, (0, 2, 1)), False)
        self.assertIs(shows_row(alone, (0, 1, 2)), False)

    def test_steps_that_share_a_divisor(self):
        wheel = ((7, 1, 0), 1, 3, (0, 2, 4))
        self.assertIs(shows_row(wheel, (0, 2, 3)), False)
        self.assertIs(shows_row(wheel, (0, 2, 1)), False)
        self.assertIs(shows_row(wheel, (0, 3, 0)), False)
        self.assertIs(shows_row(wheel, (0, 5, 1)), True)
        self.assertIs(shows_row(wheel, (0, 6, 0)), False)

    def test_great_numbers_end_at_once(self):
        whole = HAMMING[:3] + (tuple(range(7)),)
        for paper in [(GREAT, 1, 1), (-GREAT, 1, 1), (0, GREAT, 1), (0, -GREAT, 1), (0, 1, GREAT), (0, 1, -GREAT)]:
            self.assertIs(shows_row(whole, paper), False)
        for paper in [(GREAT, 1, 1, 1, 1), (0, GREAT, 1, 1, 1), (0, 1, GREAT, 1, 1), (0, 1, 1, GREAT, 1),
                      (0, 1, 1, 1, GREAT), (0, 1, 1, 1, -GREAT), (0, 1, -GREAT, 1, 1), (0, 1, 1, -GREAT, 1)]:
            self.assertIs(shows_wide(whole, paper), False)

    def test_truths_lists_and_other_numbers_of_things(self):
        self.assertIs(shows_row(HAMMING, (1, 1, 1)), True)
        for thing in [(True, 1, 1), (1, True, 1), (1, 1, True), (1, 1, False), [1, 1, 1], (1, 1), (1, 1, 1, 1), (), "111",
                      {1: 1}, (1, 1, (1,)), (1, 1, None), (1, 1, "1"), ((1, 1, 1),), (None, 1, 1), (1, [1], 1)]:
            self.assertIs(shows_row(HAMMING, thing), False)

    def test_anything(self):
        for at, thing in enumerate(plainly.anything()):
            self.assertIs(shows_row(HAMMING, thing), False, at)
            if type(thing) is not int:
                self.assertIs(shows_row(HAMMING, (thing, 1, 0)), False, at)
                self.assertIs(shows_row(HAMMING, (0, thing, 0)), False, at)
                self.assertIs(shows_row(HAMMING, (0, 1, thing)), False, at)


class ShowsWide(unittest.TestCase):
    def test_all_numbers_in_reach(self):
        for base in [((2, 1, 0), 1, 1), ((3, 1, 0), 1, 2), ((2, 2, 3), 2, 3), ((5, 1, 0), 1, 3)]:
            n = plainwheels.length(base[0], base[2])
            for wheel in plainwheels.wheels(*base):
                for paper in itertools.product(range(-1, n + 2), repeat=5):
                    self.assertIs(shows_wide(wheel, paper), plainwheels.shows_wide(wheel, *paper), (wheel, paper))

    def test_six_places(self):
        for marks in [(0, 1, 3, 4), (0, 2, 4), (1, 2, 3, 4, 5), (0, 1, 2, 3, 4, 5)]:
            wheel = SIX + (marks,)
            for paper in itertools.product((0, 1, 4, 5), (1, 2, 5), range(8), range(8), range(8)):
                self.assertIs(shows_wide(wheel, paper), plainwheels.shows_wide(wheel, *paper), (wheel, paper))

    def test_longer_ones(self):
        for wheel in plainwheels.wheels(*FIFTEEN)[5::8] + [((2, 4, 3), 4, 2, (0, 1, 3, 4, 6, 7, 9, 10))]:
            for paper in itertools.product((0, 1, 3), (1, 2, 7), range(1, 7), range(1, 16), range(0, 5)):
                self.assertIs(shows_wide(wheel, paper), plainwheels.shows_wide(wheel, *paper), (wheel, paper))

    def test_edges(self):
        self.assertIs(shows_wide(HAMMING, (1, 1, 1, 1, 1)), True)
        self.assertIs(shows_wide(HAMMING, (1, 1, 1, 1, 2)), False)
        self.assertIs(shows_wide(HAMMING, (1, 1, 2, 1, 0)), True)
        self.assertIs(shows_wide(HAMMING, (1, 1, 0, 1, 0)), False)
        self.assertIs(shows_wide(HAMMING, (1, 1, 1, 0, 0)), False)
        self.assertIs(shows_wide(HAMMING, (1, 1, 1, 8, 0)), False)
        self.assertIs(shows_wide(HAMMING, (1, 1, 1, 7, 0)), False)
        self.assertIs(shows_wide(HAMMING, (1, 1, 1, 1, -1)), False)
        self.assertIs(shows_wide(HAMMING, (0, 1, 1, 1, 0)), False)

    def test_where_all_numbers_are_marks(self):
        whole = HAMMING[:3] + (tuple(range(7)),)
        self.assertIs(shows_wide(whole, (0, 1, 7, 1, 7)), True)
        self.assertIs(shows_wide(whole, (6, 6, 7, 7, 7)), True)
        self.assertIs(shows_wide(whole, (0, 1, 7, 1, 8)), False)
        self.assertIs(shows_wide(whole, (0, 1, 8, 1, 7)), False)
        self.assertIs(shows_wide(whole, (0, 1, 6, 7, 0)), False)
        self.assertIs(shows_wide(((2, 1, 0), 1, 1, (0,)), (0, 1, 1, 1, 1)), True)
        self.assertIs(shows_wide(((2, 1, 0), 1, 1, ()), (0, 1, 1, 1, 1)), False)

    def test_far_that_shares_more_than_many(self):
        wheel = SIX + ((0, 1, 3, 4),)
        self.assertIs(shows_wide(wheel, (0, 1, 2, 3, 0)), False)
        self.assertIs(shows_wide(wheel, (0, 1, 2, 3, 1)), False)
        self.assertIs(shows_wide(wheel, (0, 1, 2, 2, 0)), True)
        self.assertIs(shows_wide(SIX + ((0, 1, 2, 3, 4, 5),), (0, 1, 3, 3, 6)), True)

    def test_truths_lists_and_other_numbers_of_things(self):
        paper = (1, 1, 1, 1, 1)
        self.assertIs(shows_wide(HAMMING, paper), True)
        for at in range(5):
            for thing in (True, "1", None, (1,), [1], {}):
                self.assertIs(shows_wide(HAMMING, paper[:at] + (thing,) + paper[at + 1:]), False)
        for thing in (list(paper), paper[:4], paper + (1,), (paper,), "11111", (1, 1, 1)):
            self.assertIs(shows_wide(HAMMING, thing), False)

    def test_anything(self):
        for at, thing in enumerate(plainly.anything()):
            self.assertIs(shows_wide(HAMMING, thing), False, at)
            if type(thing) is not int:
                for place in range(5):
                    paper = (1,) * place + (thing,) + (1,) * (4 - place)
                    self.assertIs(shows_wide(HAMMING, paper), False, (at, place))

    def test_the_same_is_told_again(self):
        for paper in [(1, 1, 1), (1, 1, 2), (2, 1, 2)]:
            self.assertIs(shows_row(HAMMING, paper), shows_row(HAMMING, paper))


if __name__ == "__main__":
    unittest.main()
