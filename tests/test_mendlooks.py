import itertools
import unittest

import plainly
import plainmending
import plainwheels
from plainwheels import SMALL

from roundwords.mendlooks import shows_mended

HAMMING = ((2, 3, 3), 1, 2, (1, 2, 4))
WORD = (1, 1, 0, 1, 0, 0, 0)
GOT = (1, 1, 0, 1, 0, 1, 0)


class ShowsMended(unittest.TestCase):
    def test_small_wheels_word_by_word(self):
        for base in SMALL:
            tuples = list(plainwheels.all_noughts(*base))
            for wheel in plainmending.some(plainwheels.wheels(*base), 6):
                every = set(plainwheels.words(wheel))
                for paper in plainmending.some(plainmending.row_papers(wheel), 4):
                    for got in plainmending.some(tuples, 6):
                        for thing in plainmending.some(tuples, 30) + plainmending.some(sorted(every), 30):
                            near = 2 * plainmending.unlike(thing, got) <= paper[2]
                            told = shows_mended(wheel, paper, got, thing)
                            self.assertIs(told, thing in every and near, (wheel, paper, got, thing))

    def test_just_one_or_none_is_taken(self):
        tuples = list(plainwheels.all_noughts(*HAMMING[:3]))
        for paper in [(1, 1, 2), (1, 1, 1), (0, 1, 0)]:
            for got in tuples[::5]:
                taken = [thing for thing in tuples if shows_mended(HAMMING, paper, got, thing)]
                self.assertEqual(taken, plainmending.near(plainwheels.words(HAMMING), got, paper[2]))
                self.assertLessEqual(len(taken), 1)

    def test_just_half_and_one_more(self):
        wheel = ((2, 4, 3), 4, 2, tuple(range(1, 7)))
        draw = plainmending.drawer(16)
        nought = (0,) * 15
        for many, paper in itertools.product(range(7), [(1, 1, 6), (1, 1, 5), (6, 14, 6), (2, 1, 3), (3, 4, 0)]):
            got = plainmending.spoilt(draw, range(16), nought, draw.sample(range(15), many))
            self.assertIs(shows_mended(wheel, paper, got, nought), 2 * many <= paper[2])

    def test_the_word_another_word_and_no_word(self):
        paper = (1, 1, 2)
        self.assertIs(shows_mended(HAMMING, paper, GOT, WORD), True)
        self.assertIs(shows_mended(HAMMING, paper, WORD, WORD), True)
        self.assertIs(shows_mended(HAMMING, paper, WORD, (0,) * 7), False)
        self.assertIs(shows_mended(HAMMING, paper, GOT, (0, 1, 1, 0, 1, 0, 0)), False)
        self.assertIs(shows_mended(HAMMING, paper, GOT, GOT), False)
        self.assertIs(shows_mended(HAMMING, (1, 1, 1), GOT, WORD), False)
        self.assertIs(shows_mended(HAMMING, (1, 1, 0), WORD, WORD), True)
        self.assertIs(shows_mended(HAMMING, (1, 1, 1), WORD, WORD), True)

    def test_lists_truths_and_other_lengths(self):
        paper = (1, 1, 2)
        for thing in [list(WORD), bytes(WORD), str(WORD), tuple(bool(k) for k in WORD), (True,) + WORD[1:],
                      WORD[:6] + (False,), WORD[:6], WORD + (0,), (WORD,), {k: 1 for k in WORD}, WORD[:6] + (None,),
                      WORD[:6] + ((0,),), WORD[:6] + ("0",), WORD[:6] + (8,), WORD[:6] + (-1,), WORD[:6] + (10 ** 40,),
                      WORD[:6] + (2,)]:
            self.assertIs(shows_mended(HAMMING, paper, WORD, thing), False)

    def test_anything(self):
        alone = ((2, 1, 0), 1, 1, ())
        for at, thing in enumerate(plainly.anything()):
            self.assertIs(shows_mended(HAMMING, (1, 1, 2), GOT, thing), False, at)
            if type(thing) is not int:
                self.assertIs(shows_mended(HAMMING, (1, 1, 2), WORD, WORD[:6] + (thing,)), False, at)
                self.assertIs(shows_mended(alone, (0, 1, 0), (0,), (thing,)), False, at)


if __name__ == "__main__":
    unittest.main()
