import itertools
import unittest

import plainly
import plainwheels
from plainly import table
from plainwheels import EIGHT, FIFTEEN, GREAT, NINE, SIX, SMALL

from roundwords.alls import all_wheels
from roundwords.errors import TooMany
from roundwords.wheels import is_wheel

THREES = plainly.least_field(3, 3)


def root(field, n):
    return next(one for one in range(1, field[0] ** field[1]) if table(field).round(one) == n)


class AllWheels(unittest.TestCase):
    def check_form(self, base, told):
        self.assertTrue(type(told) is tuple and plainly.is_plain(told))
        marks = [wheel[3] for wheel in told]
        self.assertEqual(marks, sorted(set(marks)))
        for wheel in told:
            self.assertEqual(wheel[:3], base)
            self.assertIs(is_wheel(wheel), True)
            self.assertEqual(list(wheel[3]), sorted(set(wheel[3])))

    def test_roots_of_few_rings(self):
        for base in SMALL + [SIX, EIGHT, NINE, FIFTEEN]:
            told = all_wheels(*base)
            self.check_form(base, told)
            self.assertEqual(told, tuple(sorted(plainwheels.wheels(*base))), base)
            self.assertEqual(all_wheels(*base), told)

    def test_all_tuples_of_marks_gone_through(self):
        for base in SMALL + [SIX, EIGHT, NINE]:
            n = plainwheels.length(base[0], base[2])
            q = base[0][0] ** base[1]
            found = []
            for many in range(n + 1):
                for marks in itertools.combinations(range(n), many):
                    if all(i * q % n in marks for i in marks):
                        found.append(base + (marks,))
            self.assertEqual(all_wheels(*base), tuple(sorted(found)))

    def test_each_set_closed_under_sums_letters_and_rounds_is_that_of_just_one(self):
        # Each word alone makes such a set, and so do two words together: all of these are found, each once.
        for base in [((2, 2, 3), 1, 2), ((3, 1, 0), 1, 2), ((2, 2, 3), 2, 3), ((2, 3, 3), 1, 2), ((3, 2, 2), 1, 3)]:
            told = [frozenset(plainwheels.words(wheel)) for wheel in all_wheels(*base)]
            self.assertEqual(len(set(told)), len(told))
            known = table(base[0])
            n = plainwheels.length(base[0], base[2])
            own = known.letters(base[1])
            for word in list(plainwheels.all_noughts(*base))[::3]:
                closed = {(0,) * n}
                for by in range(n):
                    moved = tuple(word[(k - by) % n] for k in range(n))
                    closed = {tuple(known.sums[a][known.products[letter][b]] for a, b in zip(one, moved))
                              for one in closed for letter in own}
                self.assertIn(frozenset(closed), told)

    def test_just_ten_rings(self):
        for base in [((11, 1, 0), 1, 2), (THREES, 1, root(THREES, 26)), ((31, 1, 0), 1, root((31, 1, 0), 10))]:
            n = plainwheels.length(base[0], base[2])
            self.assertEqual(len(plainwheels.ring_sets(n, base[0][0] ** base[1])), 10)
            told = all_wheels(*base)
            self.check_form(base, told)
            self.assertEqual(len(told), 1024)

    def test_above_ten_rings(self):
        eleven = ((23, 1, 0), 1, root((23, 1, 0), 11))
        for base in [eleven, ((13, 1, 0), 1, 2), GREAT, ((2, 6, 3), 6, 2), ((2, 4, 3), 4, 2), ((61, 1, 0), 1, 2),
                     ((2, 5, 5), 5, 2)]:
            n = plainwheels.length(base[0], base[2])
            self.assertGreater(len(plainwheels.ring_sets(n, base[0][0] ** base[1])), 10)
            for _ in range(2):
                with self.assertRaises(TooMany):
                    all_wheels(*base)
                self.assertEqual(all_wheels((2, 1, 0), 1, 1), (((2, 1, 0), 1, 1, ()), ((2, 1, 0), 1, 1, (0,))))
        self.assertEqual(len(plainwheels.ring_sets(11, 23)), 11)

    def test_by_hand(self):
        marks = [(), (0,), (0, 1, 2), (1, 2)]
        self.assertEqual(all_wheels((2, 2, 3), 1, 2), tuple(((2, 2, 3), 1, 2, some) for some in marks))
        marks = [(), (0,), (0, 1), (0, 1, 2), (0, 2), (1,), (1, 2), (2,)]
        self.assertEqual(all_wheels((2, 2, 3), 2, 3), tuple(((2, 2, 3), 2, 3, some) for some in marks))


if __name__ == "__main__":
    unittest.main()
