import itertools
import unittest

import plainly
import plainmending
import plainwheels
from plainly import table
from plainwheels import FIFTEEN, GREAT

from roundwords.facing import facing
from roundwords.fewer import few_of, traced_of
from roundwords.letters import trace

FIVES = plainly.least_field(5, 2)
SEVENS = plainly.least_field(7, 2)
GOLD = (2, 6, 3)


def root(field, n):
    return next(one for one in range(1, field[0] ** field[1]) if table(field).round(one) == n)


# Roots whose letters have fewer ones within them.
BASES = [((2, 2, 3), 2, 2), ((2, 2, 3), 2, 1), ((2, 3, 3), 3, root((2, 3, 3), 7)), ((2, 4, 3), 2, 8), ((2, 4, 3), 4, 8),
         ((2, 4, 9), 4, root((2, 4, 9), 3)), ((2, 4, 3), 4, 1), ((2, 4, 3), 4, 2), ((2, 4, 3), 2, 2), ((3, 2, 2), 2, 2),
         ((3, 2, 2), 2, 3), ((3, 2, 2), 2, 4), (FIVES, 2, root(FIVES, 3)), (FIVES, 2, root(FIVES, 8)),
         (SEVENS, 2, root(SEVENS, 4)), (GOLD, 2, root(GOLD, 3)), (GOLD, 3, root(GOLD, 7)), (GOLD, 6, root(GOLD, 7)),
         (GOLD, 6, root(GOLD, 9)), (GOLD, 2, root(GOLD, 9)), (GOLD, 3, root(GOLD, 21)), (GOLD, 6, 1)]
ONE_LETTER = [FIFTEEN, GREAT, ((7, 1, 0), 1, 3), ((61, 1, 0), 1, 2)]


def divisors(few):
    return [fewer for fewer in range(1, few + 1) if few % fewer == 0]


def drawn_wheels(base, many, draw):
    """Some wheels of a root, that with no marks and that with all among them."""
    n = plainwheels.length(base[0], base[2])
    sets = plainwheels.ring_sets(n, base[0][0] ** base[1])
    chosen = [(), tuple(range(n))]
    for k in range(many):
        rings = draw.sample(sets, k % (len(sets) + 1))
        chosen.append(tuple(sorted(i for ring in rings for i in ring)))
    return [base + (marks,) for marks in sorted(set(chosen))]


def near_full_wheels(base, draw):
    """Wheels with few words: of all rings at most some aren't marks."""
    n = plainwheels.length(base[0], base[2])
    sets = plainwheels.ring_sets(n, base[0][0] ** base[1])
    left_out = [()] + [(ring,) for ring in sets] + [tuple(draw.sample(sets, k)) for k in (2, 2, 3, 3) if k <= len(sets)]
    return [base + (tuple(sorted(i for ring in sets if ring not in out for i in ring)),) for out in left_out]


def words(wheel):
    """All words, as multiples of the maker."""
    field, few, own_root, marks = wheel
    known = table(field)
    n = plainwheels.length(field, own_root)
    row = plainwheels.maker(field, own_root, marks)
    found = []
    for by in itertools.product(known.letters(few), repeat=n - len(marks)):
        product = known.row_times(row, plainly.trimmed(by))
        found.append(product + (0,) * (n - len(product)))
    return found


def many_words(wheel):
    return (wheel[0][0] ** wheel[1]) ** (plainwheels.length(wheel[0], wheel[2]) - len(wheel[3]))


def plain_traces(field, few, fewer):
    """The trace of each letter by few."""
    known = table(field)
    found = {}
    for one in known.letters(few):
        total = 0
        for k in range(few // fewer):
            total = known.sums[total][known.power(one, field[0] ** (fewer * k))]
        found[one] = total
    return found


class Fewer(unittest.TestCase):
    def check_form(self, told, wheel, fewer):
        self.assertTrue(type(told) is tuple and plainly.is_plain(told))
        self.assertTrue(plainwheels.is_wheel(told), told)
        self.assertEqual(told[:3], (wheel[0], fewer, wheel[2]))

    def test_the_words_gone_through(self):
        draw = plainmending.drawer(81)
        gone_through = 0
        for base in BASES:
            for wheel in near_full_wheels(base, draw):
                if many_words(wheel) > 2500:
                    continue
                every = words(wheel)
                for fewer in divisors(base[1]):
                    own = set(table(base[0]).letters(fewer))
                    within, traced = few_of(wheel, fewer), traced_of(wheel, fewer)
                    asked = sorted(word for word in every if set(word) <= own)
                    self.assertEqual(sorted(words(within)), asked, (wheel, fewer))
                    known = plain_traces(base[0], base[1], fewer)
                    asked = {tuple(known[letter] for letter in word) for word in every}
                    self.assertEqual(set(words(traced)), asked, (wheel, fewer))
                    gone_through += 1
        self.assertGreater(gone_through, 150)

    def test_small_roots_with_all_their_wheels(self):
        for base in [((2, 2, 3), 2, 3), ((2, 4, 3), 2, 8), ((3, 2, 2), 2, 2), ((3, 2, 2), 2, 3),
                     (GOLD, 2, root(GOLD, 3)), ((2, 4, 9), 4, root((2, 4, 9), 3)), (FIVES, 2, root(FIVES, 2))]:
            for wheel in plainwheels.wheels(*base):
                every = plainwheels.words(wheel)
                for fewer in divisors(base[1]):
                    own = set(table(base[0]).letters(fewer))
                    asked = tuple(word for word in every if set(word) <= own)
                    self.assertEqual(plainwheels.words(few_of(wheel, fewer)), asked, (wheel, fewer))
                    known = plain_traces(base[0], base[1], fewer)
                    asked = sorted({tuple(known[letter] for letter in word) for word in every})
                    self.assertEqual(list(plainwheels.words(traced_of(wheel, fewer))), asked, (wheel, fewer))

    def test_drawn_wheels_by_their_rings(self):
        draw = plainmending.drawer(82)
        for base in BASES + ONE_LETTER:
            n = plainwheels.length(base[0], base[2])
            for wheel in drawn_wheels(base, 12, draw):
                for fewer in divisors(base[1]):
                    sets = plainwheels.ring_sets(n, base[0][0] ** fewer)
                    within, traced = few_of(wheel, fewer), traced_of(wheel, fewer)
                    for told in (within, traced):
                        self.check_form(told, wheel, fewer)
                    some = sorted(i for ring in sets if set(ring) & set(wheel[3]) for i in ring)
                    whole = sorted(i for ring in sets if set(ring) <= set(wheel[3]) for i in ring)
                    self.assertEqual(list(within[3]), some)
                    self.assertEqual(list(traced[3]), whole)
                    self.assertEqual((few_of(wheel, fewer), traced_of(wheel, fewer)), (within, traced))

    def test_few_itself_leaves_the_wheel(self):
        draw = plainmending.drawer(83)
        for base in BASES + ONE_LETTER:
            for wheel in drawn_wheels(base, 6, draw):
                self.assertEqual(few_of(wheel, base[1]), wheel)
                self.assertEqual(traced_of(wheel, base[1]), wheel)

    def test_facing_the_one_is_the_other_one_of_the_facing(self):
        draw = plainmending.drawer(84)
        for base in BASES + ONE_LETTER:
            for wheel in drawn_wheels(base, 10, draw):
                for fewer in divisors(base[1]):
                    self.assertEqual(facing(few_of(wheel, fewer)), traced_of(facing(wheel), fewer), (wheel, fewer))
                    self.assertEqual(facing(traced_of(wheel, fewer)), few_of(facing(wheel), fewer), (wheel, fewer))

    def test_step_by_step_is_as_at_once(self):
        draw = plainmending.drawer(85)
        for base in [((2, 4, 3), 4, 2), ((2, 4, 3), 4, 8), (GOLD, 6, root(GOLD, 21)), (GOLD, 6, 2)]:
            for wheel in drawn_wheels(base, 8, draw):
                for middle in divisors(base[1]):
                    self.assertEqual(few_of(few_of(wheel, middle), 1), few_of(wheel, 1))
                    self.assertEqual(traced_of(traced_of(wheel, middle), 1), traced_of(wheel, 1))

    def test_drawn_words_traced_are_words(self):
        draw = plainmending.drawer(86)
        for base in [(GOLD, 6, 2), (GOLD, 3, 2), (GOLD, 2, root(GOLD, 21)), ((2, 4, 3), 4, 2), (SEVENS, 2, 8)]:
            field, few, own_root = base
            for wheel in drawn_wheels(base, 4, draw):
                for fewer in divisors(few):
                    told = traced_of(wheel, fewer)
                    word = tuple(trace(field, few, fewer, letter) for letter in plainmending.drawn_word(draw, wheel))
                    self.assertLessEqual(set(told[3]), plainwheels.noughts(field, own_root, word))
                    within = plainmending.drawn_word(draw, few_of(wheel, fewer))
                    self.assertLessEqual(set(wheel[3]), plainwheels.noughts(field, own_root, within))

    def test_by_hand(self):
        wheel = ((2, 3, 3), 3, 2, (1, 2))
        self.assertEqual(few_of(wheel, 1), ((2, 3, 3), 1, 2, (1, 2, 4)))
        self.assertEqual(traced_of(wheel, 1), ((2, 3, 3), 1, 2, ()))
        wheel = ((2, 3, 3), 3, 2, (0, 1, 2, 3, 4))
        self.assertEqual(few_of(wheel, 1), ((2, 3, 3), 1, 2, (0, 1, 2, 3, 4, 5, 6)))
        self.assertEqual(traced_of(wheel, 1), ((2, 3, 3), 1, 2, (0, 1, 2, 4)))
        self.assertEqual(few_of(((2, 4, 3), 4, 2, (1,)), 2), ((2, 4, 3), 2, 2, (1, 4)))


if __name__ == "__main__":
    unittest.main()
