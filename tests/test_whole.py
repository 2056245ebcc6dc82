"""The whole promise, point 3, on small wheels gone through; and what holds of all that is told."""

import copy
import importlib
import inspect
import itertools
import math
import unittest

import plainly
import plainmending
import plainwheels
from plainly import table
from plainwheels import EIGHT

from roundwords import errors
from roundwords.alls import all_wheels
from roundwords.bounds import best_row, best_wide
from roundwords.boundlooks import shows_row, shows_wide
from roundwords.desk import Desk
from roundwords.facing import facing, facing_counts, product
from roundwords.fewer import few_of, traced_of
from roundwords.fields import field_of, is_field, minus, over, plus, times
from roundwords.leasts import counts, least, weight
from roundwords.letters import letters, trace
from roundwords.lost import mended_lost
from roundwords.lostlooks import shows_lost
from roundwords.mending import faults, mended
from roundwords.mendlooks import shows_mended
from roundwords.nearing import nearing
from roundwords.owns import own_word
from roundwords.parts import is_part, join, meet, wheel_around
from roundwords.reading import read_field, read_numbers, read_wheel
from roundwords.rounds import rounded, word_sum, word_times
from roundwords.rows import row_over, row_times, trimmed
from roundwords.showing import show_field, show_numbers, show_wheel
from roundwords.turning import round_product, turned, turned_back
from roundwords.turns import by_root, kinds, turn_between, turned_by, turned_word
from roundwords.wheels import is_wheel
from roundwords.words import how_many, is_word, made, maker, words

TINY = [((2, 1, 0), 1, 1), ((3, 1, 0), 1, 2), ((2, 2, 3), 1, 2), ((2, 2, 3), 2, 3), ((5, 1, 0), 1, 3), ((2, 3, 3), 1, 2),
        ((3, 2, 2), 1, 3)]

# Of each module what it holds, with how many things are handed in.
INTERFACE = {
    "fields": {"is_field": 1, "field_of": 2, "many_things": 1, "plus": 3, "minus": 3, "times": 3, "over": 3, "power": 3,
               "round_of": 2, "root_of": 2},
    "letters": {"letters": 2, "trace": 4},
    "rows": {"row_sum": 3, "row_less": 3, "row_times": 3, "row_over": 3, "common": 3, "value": 3},
    "wheels": {"is_wheel": 1, "length": 1, "rings": 2},
    "words": {"is_word": 2, "maker": 1, "checker": 1, "free": 1, "how_many": 1, "made": 2, "words": 1},
    "rounds": {"rounded": 2, "word_sum": 3, "word_times": 3},
    "bounds": {"best_row": 1, "best_wide": 1}, "boundlooks": {"shows_row": 2, "shows_wide": 2},
    "leasts": {"weight": 1, "least": 1, "counts": 1, "wide_counts": 3}, "summing": {"sums": 3}, "nearing": {"nearing": 2},
    "worths": {"places": 3, "worths": 4}, "mending": {"faults": 3, "mended": 3}, "mendlooks": {"shows_mended": 4},
    "lost": {"mended_lost": 4}, "lostlooks": {"shows_lost": 5}, "alls": {"all_wheels": 3},
    "parts": {"meet": 2, "join": 2, "is_part": 2, "part_rows": 3, "wheel_around": 4},
    "turning": {"turned": 3, "turned_back": 3, "round_product": 3}, "owns": {"own_word": 1},
    "facing": {"product": 3, "facing": 1, "facing_counts": 2},
    "turns": {"turned_word": 2, "turned_by": 2, "turn_between": 2, "by_root": 2, "kinds": 3},
    "fewer": {"few_of": 2, "traced_of": 2}, "showing": {"show_numbers": 1, "show_field": 1, "show_wheel": 1},
    "reading": {"read_numbers": 1, "read_field": 1, "read_wheel": 1},
}
FIELD = (2, 3, 3)
WHEEL = (FIELD, 1, 2, (1, 2, 4))
OTHER = (FIELD, 1, 2, (0, 3, 5, 6))
WORD = (1, 1, 0, 1, 0, 0, 0)
GOT = (1, 1, 0, 1, 0, 1, 0)
PAPER = (1, 1, 2)
# Of each function some things that may be handed in.
GIVEN = {
    "is_field": [(FIELD,), ([2, 3, 3],), ({0: [1]},)], "field_of": [(2, 3), (5, 1)], "many_things": [(FIELD,)],
    "plus": [(FIELD, 5, 3)], "minus": [(FIELD, 5, 3)], "times": [(FIELD, 5, 3)], "over": [(FIELD, 5, 3)],
    "power": [(FIELD, 5, -3), (FIELD, 0, 0)], "round_of": [(FIELD, 3)], "root_of": [(FIELD, 7)], "letters": [(FIELD, 1)],
    "trace": [(FIELD, 3, 1, 5)], "row_sum": [(FIELD, (1, 2), (0, 2)), (FIELD, (), ())], "row_less": [(FIELD, (1, 2), (0, 2))],
    "row_times": [(FIELD, (1, 2), (0, 2))], "row_over": [(FIELD, (1, 2, 3), (0, 2))], "common": [(FIELD, (1, 1), (1, 0, 1))],
    "value": [(FIELD, (1, 2, 0), 3)], "is_wheel": [(WHEEL,), ([WHEEL],), ({1: WHEEL},)], "length": [(WHEEL,)],
    "rings": [(7, 2), (1, 1)], "is_word": [(WHEEL, WORD), (WHEEL, list(WORD)), (WHEEL, {0: []})], "maker": [(WHEEL,)],
    "checker": [(WHEEL,)], "free": [(WHEEL,)], "how_many": [(WHEEL,)], "made": [(WHEEL, (1, 0, 0, 0))], "words": [(WHEEL,)],
    "rounded": [(WORD, -3)], "word_sum": [(FIELD, WORD, GOT)], "word_times": [(FIELD, 5, WORD)], "best_row": [(WHEEL,)],
    "best_wide": [(WHEEL,), (WHEEL[:3] + ((),),)], "shows_row": [(WHEEL, PAPER), (WHEEL, [1, 1, 2])],
    "shows_wide": [(WHEEL, (1, 1, 1, 1, 1)), (WHEEL, [[]])], "weight": [(WORD,)],
    "least": [(WHEEL,), (WHEEL[:3] + (tuple(range(7)),),)], "counts": [(WHEEL,)], "wide_counts": [(4, 5, 2)],
    "sums": [(WHEEL, PAPER, GOT)], "nearing": [(FIELD, (7, 3, 1)), (FIELD, ())], "places": [(WHEEL, PAPER, (1, 7))],
    "worths": [(WHEEL, PAPER, (7, 3), (1, 7))], "faults": [(WHEEL, PAPER, GOT), (WHEEL, (1, 1, 1), GOT)],
    "mended": [(WHEEL, PAPER, GOT), (WHEEL, (1, 1, 1), GOT)], "shows_mended": [(WHEEL, PAPER, GOT, WORD), (WHEEL, PAPER, GOT, [])],
    "mended_lost": [(WHEEL, PAPER, GOT, (5,))], "shows_lost": [(WHEEL, PAPER, GOT, (5,), WORD), (WHEEL, PAPER, GOT, (5,), {})],
    "all_wheels": [WHEEL[:3]], "meet": [(WHEEL, OTHER)], "join": [(WHEEL, OTHER)], "is_part": [(WHEEL, OTHER), (WHEEL, WHEEL)],
    "part_rows": [WHEEL[:3]], "wheel_around": [WHEEL[:3] + ((),), WHEEL[:3] + ((WORD, GOT),)], "turned": [(FIELD, 2, GOT)],
    "turned_back": [(FIELD, 2, GOT)], "round_product": [(FIELD, WORD, GOT)], "own_word": [(WHEEL,)],
    "product": [(FIELD, WORD, GOT)], "facing": [(WHEEL,)], "facing_counts": [(2, (1, 0, 0, 7, 7, 0, 0, 1))],
    "turned_word": [(WORD, 3), (WORD, 10)], "turned_by": [(WHEEL, 3), (WHEEL, 10)],
    "turn_between": [(WHEEL, WHEEL), (WHEEL, OTHER)], "by_root": [(WHEEL, 3)], "kinds": [WHEEL[:3]],
    "few_of": [((FIELD, 3, 2, (1, 2)), 1)], "traced_of": [((FIELD, 3, 2, (1, 2, 4)), 1)], "show_numbers": [((),), (WORD,)],
    "show_field": [(FIELD,)], "show_wheel": [(WHEEL,)], "read_numbers": [("-",), ("0.1.12",)], "read_field": [("2.3.3",)],
    "read_wheel": [("2.3.3/1/2/1.2.4",)],
}


def functions():
    for module, names in INTERFACE.items():
        for name, many in names.items():
            yield name, getattr(importlib.import_module("roundwords." + module), name), many


def tiny_wheels():
    return [wheel for base in TINY for wheel in plainmending.some(all_wheels(*base), 10)]


def turns(n):
    """Numbers from 1 on, some above n, that share no divisor above 1 with n."""
    return [a for a in range(1, 2 * n + 2) if math.gcd(a, n) == 1]


def rows_of(wheel):
    """All tuples of n letters."""
    return itertools.product(letters(wheel[0], wheel[1]), repeat=plainwheels.length(wheel[0], wheel[2]))


class Promise(unittest.TestCase):
    def test_a_fields(self):
        for field in [field_of(2, 1), field_of(3, 1), field_of(2, 2), field_of(5, 1), field_of(2, 3), field_of(3, 2)]:
            things = range(field[0] ** field[1])
            for a, b in itertools.product(things, repeat=2):
                self.assertEqual(plus(field, a, b), plus(field, b, a))
                self.assertEqual(times(field, a, b), times(field, b, a))
            for a, b, c in itertools.product(things, repeat=3):
                self.assertEqual(plus(field, plus(field, a, b), c), plus(field, a, plus(field, b, c)))
                self.assertEqual(times(field, times(field, a, b), c), times(field, a, times(field, b, c)))
                self.assertEqual(times(field, a, plus(field, b, c)), plus(field, times(field, a, b), times(field, a, c)))
            for a in things[1:]:
                self.assertEqual(len([b for b in things if times(field, a, b) == 1]), 1)
        for field, few in [((2, 4, 3), 1), ((2, 4, 3), 2), ((2, 6, 3), 3), ((3, 2, 2), 1)]:
            own = letters(field, few)
            self.assertEqual(len(own), field[0] ** few)
            for a, b in itertools.product(own, repeat=2):
                for told in [plus(field, a, b), minus(field, a, b), times(field, a, b)] + ([over(field, a, b)] if b else []):
                    self.assertIn(told, own)

    def test_b_words(self):
        for wheel in tiny_wheels():
            field = wheel[0]
            every = words(wheel)
            self.assertEqual(len(set(every)), how_many(wheel))
            own = letters(field, wheel[1])
            multiples = [row for row in rows_of(wheel) if row_over(field, trimmed(row), maker(wheel))[1] == ()]
            self.assertEqual(tuple(multiples), every)
            inside = set(every)
            for word in every[::5]:
                self.assertTrue(all(word_sum(field, word, other) in inside for other in every[::7]))
                self.assertTrue(all(word_times(field, letter, word) in inside for letter in own))
                self.assertTrue(all(rounded(word, by) in inside for by in range(len(word))))
                self.assertEqual(made(wheel, word[len(wheel[3]):]), word)
            self.assertEqual(len({word[len(wheel[3]):] for word in every}), len(every))

    def test_c_papers_and_the_least(self):
        for wheel in tiny_wheels():
            every = words(wheel)
            n = len(every[0])
            near = min((plainmending.unlike(one, other) for one, other in itertools.combinations(every[:60], 2)), default=n)
            found = least(wheel)
            self.assertIs(found is None, len(every) == 1)
            if found is not None:
                self.assertEqual(weight(found[1]), found[0])
                self.assertIn(found[1], every)
                self.assertLessEqual(found[0], near)
                for paper in itertools.product(range(n), range(1, n + 1), range(n + 1)):
                    if shows_row(wheel, paper):
                        self.assertLessEqual(paper[2] + 1, found[0])
                self.assertLessEqual(best_row(wheel)[2] + 1, found[0])
                paper = best_wide(wheel)
                if paper is not None:
                    self.assertIs(shows_wide(wheel, paper), True)
                    self.assertLessEqual(paper[2] + 1 + paper[4], found[0])

    def test_d_mending(self):
        for wheel in plainmending.some(tiny_wheels(), 24):
            every = words(wheel)
            paper = best_row(wheel)
            for got in plainmending.some(list(rows_of(wheel)), 60):
                near = [word for word in every if 2 * plainmending.unlike(word, got) <= paper[2]]
                told = mended(wheel, paper, got)
                self.assertEqual([told] if told is not None else [], near, (wheel, got))
                self.assertIs(faults(wheel, paper, got) is None, told is None)
                self.assertEqual([word for word in every if shows_mended(wheel, paper, got, word)], near)
                for many in range(paper[2] + 1):
                    lost = tuple(range(0, len(got), 2))[:many]
                    near = [word for word in every if 2 * plainmending.unlike(word, got, lost) <= paper[2] - len(lost)]
                    told = mended_lost(wheel, paper, got, lost)
                    self.assertEqual([told] if told is not None else [], near)
                    self.assertEqual([word for word in every if shows_lost(wheel, paper, got, lost, word)], near)

    def test_e_nearing(self):
        for field in [(2, 1, 0), (3, 1, 0), (2, 2, 3)]:
            for sums in itertools.product(range(field[0] ** field[1]), repeat=4):
                for k, (gap, length, row) in enumerate(nearing(field, sums)):
                    self.assertEqual(length, plainmending.least_length(field, sums[:k + 1]))
                    self.assertTrue(plainmending.tells_on(field, row, length, sums[:k + 1]))

    def test_f_closed_sets(self):
        for base in TINY:
            every = {frozenset(words(wheel)): wheel for wheel in all_wheels(*base)}
            self.assertEqual(len(every), len(all_wheels(*base)))
            # A closed set is the sums of those that its rows make one by one, and each of these is a wheel's.
            for row in plainmending.some(list(rows_of(all_wheels(*base)[0])), 40):
                closed = {(0,) * len(row)}
                for by in range(len(row)):
                    moved = rounded(row, by)
                    closed = {word_sum(base[0], one, word_times(base[0], letter, moved))
                              for one in closed for letter in letters(base[0], base[1])}
                self.assertEqual(every[frozenset(closed)], wheel_around(*base, (row,)))
            for one, other in plainmending.some(list(itertools.product(every, repeat=2)), 40):
                self.assertEqual(every[one & other], meet(every[one], every[other]))
                self.assertIs(is_part(every[one], every[other]), one <= other)
                if len(one) * len(other) < 4000:
                    together = frozenset(word_sum(base[0], a, b) for a, b in itertools.product(one, other))
                    self.assertEqual(every[together], join(every[one], every[other]))

    def test_g_facing(self):
        for wheel in tiny_wheels():
            field = wheel[0]
            base_words = [row for row in words(wheel) if sum(map(bool, row[len(wheel[3]):])) == 1]
            asked = [row for row in rows_of(wheel) if all(product(field, row, word) == 0 for word in base_words)]
            self.assertEqual(list(words(facing(wheel))), asked, wheel)
            self.assertEqual(facing(facing(wheel)), wheel)
            self.assertEqual(facing_counts(field[0] ** wheel[1], counts(wheel)), counts(facing(wheel)))

    def test_h_turns_and_roots(self):
        for wheel in tiny_wheels():
            n = plainwheels.length(wheel[0], wheel[2])
            for a in turns(n):
                turned_words = tuple(sorted(turned_word(word, a) for word in words(wheel)))
                self.assertEqual(words(turned_by(wheel, a)), turned_words)
                self.assertLessEqual(turn_between(wheel, turned_by(wheel, a)), a)
            for root in range(1, wheel[0][0] ** wheel[0][1]):
                if table(wheel[0]).round(root) == n:
                    self.assertEqual(words(by_root(wheel, root)), words(wheel))
        for base in TINY:
            self.assertEqual(sorted(wheel for kind in kinds(*base) for wheel in kind), sorted(all_wheels(*base)))

    def test_i_fewer_letters(self):
        for base in [((2, 2, 3), 2, 3), ((3, 2, 2), 2, 2), ((2, 4, 3), 2, 8), ((2, 4, 3), 4, 6)]:
            for wheel in plainmending.some(all_wheels(*base), 12):
                every = words(wheel)
                for fewer in [fewer for fewer in range(1, base[1] + 1) if base[1] % fewer == 0]:
                    own = letters(base[0], fewer)
                    alone = tuple(word for word in every if all(letter in own for letter in word))
                    self.assertEqual(words(few_of(wheel, fewer)), alone)
                    known = {letter: trace(base[0], base[1], fewer, letter) for letter in letters(base[0], base[1])}
                    traced = tuple(sorted({tuple(known[letter] for letter in word) for word in every}))
                    self.assertEqual(words(traced_of(wheel, fewer)), traced)
                    self.assertEqual(facing(few_of(wheel, fewer)), traced_of(facing(wheel), fewer))
                    self.assertEqual(facing(traced_of(wheel, fewer)), few_of(facing(wheel), fewer))

    def test_j_turned_rows_and_own_words(self):
        for wheel in tiny_wheels():
            field, _, root, _ = wheel
            every = words(wheel)
            for row in plainmending.some(list(rows_of(wheel)), 20):
                self.assertEqual(turned_back(field, root, turned(field, root, row)), row)
                self.assertEqual(turned(field, root, turned_back(field, root, row)), row)
                pairs = zip(turned(field, root, row), turned(field, root, every[-1]))
                self.assertEqual(turned(field, root, round_product(field, row, every[-1])),
                                 tuple(times(field, a, b) for a, b in pairs))
            if len(every) <= 32:
                own = [one for one in every if all(round_product(field, one, word) == word for word in every)]
                self.assertEqual(own, [own_word(wheel)])

    def test_k_texts_and_the_desk(self):
        for wheel in tiny_wheels():
            text = show_wheel(wheel)
            self.assertEqual(read_wheel(text), wheel)
            self.assertEqual(read_field(show_field(wheel[0])), wheel[0])
            self.assertEqual(read_numbers(show_numbers(wheel[3])), wheel[3])
            desk = Desk(text)
            self.assertEqual(desk.say("wheel"), text)
            self.assertEqual(desk.say("own"), show_numbers(own_word(wheel)))
            self.assertEqual(desk.say("counts"), show_numbers(counts(wheel)))
            self.assertEqual(desk.say("face"), "done")
            self.assertEqual(desk.say("wheel"), show_wheel(facing(wheel)))
            self.assertEqual(desk.say("back"), "done")
            self.assertEqual(desk.say("wheel"), text)

    def test_wheels_of_eight_places_hold_together(self):
        for wheel in plainmending.some(all_wheels(*EIGHT), 12):
            self.assertEqual(facing(facing(wheel)), wheel)
            self.assertIs(is_word(wheel, own_word(wheel)), True)
            self.assertEqual(wheel_around(*EIGHT, (own_word(wheel),)), wheel)
            self.assertEqual(read_wheel(show_wheel(wheel)), wheel)


class Told(unittest.TestCase):
    def test_all_of_the_interface_is_there(self):
        for name, what, many in functions():
            self.assertTrue(inspect.isfunction(what), name)
            self.assertEqual(len(inspect.signature(what).parameters), many, name)
            self.assertIn(name, GIVEN)
        self.assertEqual(len(inspect.signature(Desk).parameters), 1)
        self.assertEqual(len(inspect.signature(Desk.say).parameters), 2)
        for name in ("ByNought", "NoRoot", "TooMany", "NoText", "NoLine"):
            self.assertEqual(getattr(errors, name).__bases__, (errors.RoundError,))
        self.assertEqual(sum(len(names) for names in INTERFACE.values()), len(GIVEN))

    def test_plain_things_the_same_again_and_nothing_changed(self):
        for name, what, many in functions():
            for given in GIVEN[name]:
                self.assertEqual(len(given), many, name)
                kept = copy.deepcopy(given)
                told = what(*given)
                self.assertTrue(plainly.is_plain(told), (name, told))
                again = what(*given)
                self.assertEqual(repr(again), repr(told), name)
                self.assertEqual(repr(given), repr(kept), name)

    def test_truths_are_told_by_truths_alone(self):
        for name, what, _ in functions():
            for given in GIVEN[name]:
                asks = name.startswith("is_") or name.startswith("shows_")
                self.assertIs(type(what(*given)) is bool, asks, name)

    def test_of_anything_nothing_is_changed(self):
        seed = [1, [2, 3], {4: [5]}, (6, [7])]
        for ask in (is_field, is_wheel, lambda thing: is_word(WHEEL, thing), lambda thing: shows_row(WHEEL, thing),
                    lambda thing: shows_wide(WHEEL, thing),
                    lambda thing: shows_mended(WHEEL, PAPER, GOT, thing),
                    lambda thing: shows_lost(WHEEL, PAPER, GOT, (5,), thing)):
            self.assertIs(ask(seed), False)
            self.assertEqual(seed, [1, [2, 3], {4: [5]}, (6, [7])])
        for ask, refusal in ((read_numbers, errors.NoText), (read_field, errors.NoText), (read_wheel, errors.NoText),
                             (Desk, errors.NoText), (Desk("2.3.3/1/2/-").say, errors.NoLine)):
            with self.assertRaises(refusal):
                ask(seed)
            self.assertEqual(seed, [1, [2, 3], {4: [5]}, (6, [7])])


if __name__ == "__main__":
    unittest.main()
