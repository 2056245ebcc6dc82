import itertools
import unittest

import plainly
import plainmending
import plainwheels
from plainwheels import SMALL

from roundwords.lostlooks import shows_lost

HAMMING = ((2, 3, 3), 1, 2, (1, 2, 4))
WORD = (1, 1, 0, 1, 0, 0, 0)


class ShowsLost(unittest.TestCase):
    def test_small_wheels_word_by_word(self):
        for base in SMALL:
            n = plainwheels.length(base[0], base[2])
            tuples = list(plainwheels.all_noughts(*base))
            for wheel in plainmending.some(plainwheels.wheels(*base), 5):
                every = plainwheels.words(wheel)
                inside = set(every)
                for paper in plainmending.some(plainmending.row_papers(wheel), 4):
                    lost_places = [lost for f in range(paper[2] + 1) for lost in itertools.combinations(range(n), f)]
                    for lost in plainmending.some(lost_places, 4):
                        for got in plainmending.some(tuples, 4):
                            for thing in plainmending.some(tuples, 12) + plainmending.some(every, 12):
                                near = 2 * plainmending.unlike(thing, got, lost) <= paper[2] - len(lost)
                                self.assertIs(shows_lost(wheel, paper, got, lost, thing), thing in inside and near,
                                              (wheel, paper, got, lost, thing))

    def test_just_one_or_none_is_taken(self):
        tuples = list(plainwheels.all_noughts(*HAMMING[:3]))
        every = plainwheels.words(HAMMING)
        for paper, lost in [((1, 1, 2), ()), ((1, 1, 2), (0,)), ((1, 1, 2), (2, 6)), ((1, 1, 1), (3,)), ((0, 1, 0), ())]:
            for got in tuples[::11]:
                taken = [thing for thing in tuples if shows_lost(HAMMING, paper, got, lost, thing)]
                self.assertEqual(taken, plainmending.near(every, got, paper[2], lost))
                self.assertLessEqual(len(taken), 1)

    def test_just_as_far_as_it_goes_and_one_more(self):
        wheel = ((2, 4, 3), 4, 2, tuple(range(1, 7)))
        nought = (0,) * 15
        draw = plainmending.drawer(30)
        for many, f, paper in itertools.product(range(5), range(4), [(1, 1, 6), (1, 1, 5), (6, 14, 4), (2, 1, 3)]):
            chosen = draw.sample(range(15), many + f)
            lost = tuple(sorted(chosen[:f]))
            got = plainmending.spoilt(draw, range(16), nought, chosen)
            self.assertIs(shows_lost(wheel, paper, got, lost, nought), 2 * many <= paper[2] - f)
            # What stands at a lost place counts for nothing.
            got = plainmending.spoilt(draw, range(16), nought, chosen[f:])
            self.assertIs(shows_lost(wheel, paper, got, lost, nought), 2 * many <= paper[2] - f)

    def test_the_word_another_word_and_no_word(self):
        self.assertIs(shows_lost(HAMMING, (1, 1, 2), WORD, (), WORD), True)
        self.assertIs(shows_lost(HAMMING, (1, 1, 2), (0,) + WORD[1:], (0, 6), WORD), True)
        self.assertIs(shows_lost(HAMMING, (1, 1, 2), (0,) + WORD[1:], (6,), WORD), False)
        self.assertIs(shows_lost(HAMMING, (1, 1, 2), (0,) + WORD[1:], (), WORD), True)
        self.assertIs(shows_lost(HAMMING, (1, 1, 2), (0,) + WORD[1:], (0,), (0,) + WORD[1:]), False)
        self.assertIs(shows_lost(HAMMING, (1, 1, 2), WORD, (0, 1), (0,) * 7), False)
        self.assertIs(shows_lost(HAMMING, (1, 1, 2), (0, 0, 0, 1, 0, 0, 0), (0, 1), WORD), True)

    def test_lists_truths_and_other_lengths(self):
        for thing in [list(WORD), bytes(WORD), str(WORD), tuple(bool(k) for k in WORD), (True,) + WORD[1:],
                      WORD[:6] + (False,), WORD[:6], WORD + (0,), (WORD,), {k: 1 for k in WORD}, WORD[:6] + (None,),
                      WORD[:6] + ((0,),), WORD[:6] + ("0",), WORD[:6] + (8,), WORD[:6] + (-1,), WORD[:6] + (10 ** 40,),
                      WORD[:6] + (2,)]:
            for lost in ((), (6,), (0, 6)):
                self.assertIs(shows_lost(HAMMING, (1, 1, 2), WORD, lost, thing), False)

    def test_anything(self):
        alone = ((2, 1, 0), 1, 1, ())
        for at, thing in enumerate(plainly.anything()):
            self.assertIs(shows_lost(HAMMING, (1, 1, 2), WORD, (6,), thing), False, at)
            if type(thing) is not int:
                self.assertIs(shows_lost(HAMMING, (1, 1, 2), WORD, (6,), WORD[:6] + (thing,)), False, at)
                self.assertIs(shows_lost(HAMMING, (1, 1, 2), WORD, (), (thing,) + WORD[1:]), False, at)
                self.assertIs(shows_lost(alone, (0, 1, 0), (0,), (), (thing,)), False, at)


if __name__ == "__main__":
    unittest.main()
