"""Wheels and their words, reckoned as plainly as may be, for the tests to hold the program against."""

import functools
import itertools
import math

from plainly import is_numbers, parts_nought, table

# (field, few, root): the roots are not all the least ones of their round.
SMALL = [
    ((2, 1, 0), 1, 1), ((7, 1, 3), 1, 1), ((3, 1, 0), 1, 2), ((2, 2, 3), 1, 2), ((2, 2, 3), 2, 3), ((5, 1, 0), 1, 3),
    ((7, 1, 3), 1, 2), ((2, 3, 3), 1, 2), ((2, 3, 3), 1, 5), ((2, 4, 3), 2, 8), ((3, 2, 2), 1, 3), ((2, 4, 9), 2, 3),
]
SIX = ((7, 1, 0), 1, 3)
EIGHT = ((3, 2, 2), 1, 4)
NINE = ((2, 6, 3), 1, 6)
FIFTEEN = ((2, 4, 3), 1, 2)
GREAT = ((2, 6, 3), 1, 2)


@functools.lru_cache(maxsize=None)
def length(field, root):
    return table(field).round(root)


def ring_sets(n, q):
    found = set()
    for start in range(n):
        ring = {start}
        while {i * q % n for i in ring} - ring:
            ring |= {i * q % n for i in ring}
        found.add(tuple(sorted(ring)))
    return tuple(sorted(found))


@functools.lru_cache(maxsize=None)
def wheels(field, few, root):
    """All wheels with these."""
    sets = ring_sets(length(field, root), field[0] ** few)
    assert len(sets) <= 8, (field, few, root)
    chosen = itertools.chain.from_iterable(itertools.combinations(sets, k) for k in range(len(sets) + 1))
    return [(field, few, root, tuple(sorted(i for ring in some for i in ring))) for some in chosen]


def is_wheel(thing):
    if type(thing) is not tuple or len(thing) != 4:
        return False
    field, few, root, marks = thing
    if not is_numbers(field) or len(field) != 3 or parts_nought(field):
        return False
    p, m, _ = field
    if type(few) is not int or few < 1 or m % few or type(root) is not int or not 1 <= root < p ** m:
        return False
    n = length(field, root)
    if not is_numbers(marks) or list(marks) != sorted(set(marks)):
        return False
    return all(0 <= i < n and i * p ** few % n in marks for i in marks)


def noughts(field, root, row):
    """All i below n for which the value at root ** i is 0."""
    known = table(field)
    ring = known.powers(root)
    n = len(ring)
    found = set()
    for i in range(n):
        total = 0
        for k, thing in enumerate(row):
            if thing:
                total = known.sums[total][known.products[thing][ring[i * k % n]]]
        if total == 0:
            found.add(i)
    return found


@functools.lru_cache(maxsize=None)
def all_noughts(field, few, root):
    """Each tuple of n letters, rising, with its noughts."""
    own = table(field).letters(few)
    # A base whose tuples are too many to walk is a slip of the test, not something to wait for.
    assert len(own) ** length(field, root) <= 10000, (field, few, root)
    return {row: noughts(field, root, row) for row in itertools.product(own, repeat=length(field, root))}


def words(wheel):
    field, few, root, marks = wheel
    return tuple(row for row, found in all_noughts(field, few, root).items() if set(marks) <= found)


def maker(field, root, marks):
    known = table(field)
    row = (1,)
    for i in marks:
        row = known.row_times(row, (known.negative(known.power(root, i)), 1))
    return row


def is_start(n, first, step):
    return 0 <= first < n and 1 <= step <= n and math.gcd(step, n) == 1


def shows_row(wheel, first, step, many):
    n = length(wheel[0], wheel[2])
    return (is_start(n, first, step) and 0 <= many <= n
            and all((first + k * step) % n in wheel[3] for k in range(many)))


def shows_wide(wheel, first, step, many, far, often):
    n = length(wheel[0], wheel[2])
    return (is_start(n, first, step) and 1 <= many <= n and 1 <= far <= n and 0 <= often <= n
            and math.gcd(far, n) <= many
            and all((first + k * step + j * far) % n in wheel[3] for k in range(many) for j in range(often + 1)))


def best_row(wheel):
    n = length(wheel[0], wheel[2])
    papers = [paper for paper in itertools.product(range(n), range(1, n + 1), range(n + 1))
              if shows_row(wheel, *paper)]
    most = max(paper[2] for paper in papers)
    return min(paper for paper in papers if paper[2] == most)


def best_wide(wheel):
    n = length(wheel[0], wheel[2])
    whole = range(1, n + 1)
    papers = [paper for paper in itertools.product(range(n), whole, whole, whole, range(n + 1))
              if shows_wide(wheel, *paper)]
    if not papers:
        return None
    most = max(paper[2] + paper[4] for paper in papers)
    return min(paper for paper in papers if paper[2] + paper[4] == most)
