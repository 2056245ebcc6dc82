"""Wheels: a field, its letters, a root, and marks at some of the root's powers."""

from roundwords.counting import is_whole, number_power
from roundwords.fields import is_field, many_things, round_of


def length(wheel):
    """How many letters its words have: the round of its root."""
    return round_of(wheel[0], wheel[2])


def with_marks(wheel, marks):
    """The wheel, alike but for its marks: these, handed in rising."""
    field, few, root, before = wheel
    return (field, few, root, tuple(marks))


def is_rising(thing, n):
    """Whether it is a rising tuple of numbers from 0 to n - 1."""
    if not isinstance(thing, tuple):
        return False
    before = -1
    for mark in thing:
        if not is_whole(mark) or not before < mark < n:
            return False
        before = mark
    return True


def is_wheel(thing):
    """Whether it is a wheel, of anything."""
    if not isinstance(thing, tuple) or len(thing) != 4:
        return False
    field, few, root, marks = thing
    if not is_field(field) or not is_whole(few) or not is_whole(root):
        return False
    if few < 1 or field[1] % few != 0 or not 0 < root < many_things(field):
        return False
    n = length(thing)
    q = number_power(field[0], few)
    return is_rising(marks, n) and all([mark * q % n in marks for mark in marks])


def ring_from(n, q, start):
    """The ring that start lies on."""
    ring = [start]
    at = start * q % n
    while at not in ring:
        ring.append(at)
        at = at * q % n
    return tuple(sorted(ring))


def rings(n, q):
    """All rings of the numbers below n, times q by rests by n; n and q share no divisor above 1."""
    found = []
    for start in range(n):
        ring = ring_from(n, q, start)
        # Each ring is met once from each of its numbers; the least of them is met first.
        if ring[0] == start:
            found.append(ring)
    return tuple(found)
