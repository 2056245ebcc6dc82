"""Wheels of a root that are parts of one another, and the rows that such wheels are made of."""

from roundwords.counting import number_power
from roundwords.fields import round_of
from roundwords.turning import turned
from roundwords.wheels import rings, with_marks
from roundwords.words import row_of_roots


def meet(one, other):
    """The wheel whose words are those of both, of wheels alike but for their marks."""
    return with_marks(one, sorted(set(one[3]) | set(other[3])))


def join(one, other):
    """The wheel whose words are the sums of a word of each, of wheels alike but for their marks."""
    return with_marks(one, [i for i in one[3] if i in other[3]])


def is_part(one, other):
    """Whether each word of the one is one of the other, of wheels alike but for their marks."""
    return all([i in one[3] for i in other[3]])


def part_rows(field, few, root):
    """For each ring, in their order, the row that is nought at the root's powers by its numbers alone, each once."""
    every = rings(round_of(field, root), number_power(field[0], few))
    return tuple([row_of_roots(field, root, ring) for ring in every])


def wheel_around(field, few, root, rows):
    """The wheel of the fewest words of which all these tuples of letters are words."""
    values = [turned(field, root, row) for row in rows]
    marks = [i for i in range(round_of(field, root)) if all([row[i] == 0 for row in values])]
    return (field, few, root, tuple(marks))
