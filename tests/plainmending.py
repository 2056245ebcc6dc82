"""Sums, nearing, worths and mending, reckoned as plainly as may be, for the tests to hold the program against."""

import functools
import itertools
import random

import plainwheels
from plainly import table, trimmed

# Wheels, each with its best row paper, that are too long to go through all their tuples.
LONG = [
    (((2, 4, 3), 4, 2, tuple(range(1, 7))), (1, 1, 6)), (((2, 4, 3), 4, 9, tuple(range(3, 12))), (3, 1, 9)),
    (plainwheels.FIFTEEN + ((1, 2, 3, 4, 6, 8, 9, 12),), (1, 1, 4)),
    (plainwheels.FIFTEEN + ((0, 1, 2, 3, 4, 5, 6, 8, 9, 10, 12),), (0, 1, 7)),
    (((3, 2, 2), 2, 4, (0, 1, 3, 4, 6)), (0, 3, 5)), (((7, 1, 0), 1, 3, (0, 1, 2, 5)), (2, 5, 4)),
    (((3, 2, 2), 1, 4, (1, 3)), (1, 1, 1)),
    (((2, 6, 3), 1, 2, (1, 2, 3, 4, 6, 8, 12, 16, 24, 32, 33, 48)), (1, 1, 4)),
    (((2, 6, 3), 6, 2, tuple(range(5, 13))), (5, 1, 8)), (((61, 1, 0), 1, 2, tuple(range(55, 60))), (55, 1, 5)),
]


@functools.lru_cache(maxsize=None)
def row_papers(wheel):
    """All row papers of a wheel, rising."""
    n = plainwheels.length(wheel[0], wheel[2])
    return tuple(paper for paper in itertools.product(range(n), range(1, n + 1), range(n + 1))
                 if plainwheels.shows_row(wheel, *paper))


def papers_within(wheel, paper):
    """The paper, the same one the other way round, and shorter ones."""
    n = plainwheels.length(wheel[0], wheel[2])
    first, step, many = paper
    last = (first + (many - 1) * step) % n
    papers = [paper, (last, n - step, many), (first, step, many - 1), ((first + step) % n, step, many - 1),
              (last, n - step, 1), (first, step, 0)]
    assert all(plainwheels.shows_row(wheel, *paper) for paper in papers), wheel
    return papers


def long_cases():
    """(wheel, its letters, its length, paper) for the papers within those of the long wheels."""
    for wheel, best in LONG:
        own = table(wheel[0]).letters(wheel[1])
        n = plainwheels.length(wheel[0], wheel[2])
        for paper in papers_within(wheel, best):
            yield wheel, own, n, paper


def some(things, many):
    """At most some so many of the things, the first and the last among them, the others spread evenly."""
    if len(things) <= many:
        return list(things)
    return [things[k * (len(things) - 1) // (many - 1)] for k in range(many)]


def drawer(seed):
    """What the tests draw from; the same seed draws the same."""
    return random.Random(seed)


def drawn(draw, own, many):
    return tuple(own[draw.randrange(len(own))] for _ in range(many))


def drawn_word(draw, wheel):
    """A multiple of the maker."""
    field, few, root, marks = wheel
    known = table(field)
    n = plainwheels.length(field, root)
    by = trimmed(drawn(draw, known.letters(few), n - len(marks)))
    row = known.row_times(plainwheels.maker(field, root, marks), by)
    return row + (0,) * (n - len(row))


def root_power(field, root, many):
    ring = table(field).powers(root)
    return ring[many % len(ring)]


def value(field, root, row, many):
    """The value of any tuple at root ** many."""
    known = table(field)
    ring = known.powers(root)
    total = 0
    for k, thing in enumerate(row):
        total = known.sums[total][known.products[thing][ring[many * k % len(ring)]]]
    return total


def sums(wheel, paper, got):
    first, step, many = paper
    return tuple(value(wheel[0], wheel[2], got, first + k * step) for k in range(many))


def parted(known, one, other):
    return next(thing for thing in known.things if known.products[thing][other] == one)


def nearing(field, told):
    """Step by step, in the document's own letters."""
    known = table(field)
    C, length, B, b, far = (1,), 0, (1,), 1, 1
    steps = []
    for k in range(len(told)):
        gap = 0
        for i in range(length + 1):
            gap = known.sums[gap][known.products[C[i] if i < len(C) else 0][told[k - i]]]
        if gap == 0:
            far += 1
        else:
            moved = known.row_times((0,) * far + (parted(known, gap, b),), B)
            D = known.row_sum(C, known.row_negative(moved))
            if 2 * length <= k:
                B, b, far, length = C, gap, 1, k + 1 - length
            else:
                far += 1
            C = D
        steps.append((gap, length, C))
    return tuple(steps)


def tells_on(field, row, long, told):
    """Whether the row, (1, c(1) .. c(long)), 0 behind its end, tells the sums on by long."""
    known = table(field)
    row = tuple(row) + (0,) * (long + 1 - len(row))
    for j in range(long, len(told)):
        total = 0
        for i in range(long + 1):
            total = known.sums[total][known.products[row[i]][told[j - i]]]
        if total:
            return False
    return True


def least_length(field, told):
    """The least length there is, all rows gone through."""
    size = field[0] ** field[1]
    for long in range(len(told) + 1):
        for rest in itertools.product(range(size), repeat=long):
            if tells_on(field, (1,) + rest, long, told):
                return long


def places(wheel, paper, row):
    n = plainwheels.length(wheel[0], wheel[2])
    return tuple(k for k in range(n) if value(wheel[0], wheel[2], row, -k * paper[1]) == 0)


def derived(field, row):
    known = table(field)
    found = []
    for i in range(1, len(row)):
        total = 0
        for _ in range(i):
            total = known.sums[total][row[i]]
        found.append(total)
    return tuple(found)


def worths(wheel, paper, told, row):
    """The worths, or None where they are refused."""
    field, _, root, _ = wheel
    first, step, many = paper
    known = table(field)
    ahead = known.row_times(told, row)[:many]
    found = []
    for k in places(wheel, paper, row):
        D = value(field, root, derived(field, row), -k * step)
        if D == 0:
            return None
        W = value(field, root, ahead, -k * step)
        product = known.products[known.products[root_power(field, root, step * k)][W]][
            root_power(field, root, -k * first)]
        found.append(parted(known, known.negative(product), D))
    return tuple(found)


def locator(wheel, paper, chosen):
    """The product of 1 less u ** k times x, for all places k chosen."""
    field, _, root, _ = wheel
    known = table(field)
    row = (1,)
    for k in chosen:
        row = known.row_times(row, (1, known.negative(root_power(field, root, k * paper[1]))))
    return row


def unlike(one, other, lost=()):
    """At how many places but the lost ones they are unlike."""
    return sum(a != b for k, (a, b) in enumerate(zip(one, other)) if k not in lost)


def near(every, got, many, lost=()):
    """All of these words that are so near what was got, by a paper of so many and with these places lost."""
    return [word for word in every if 2 * unlike(word, got, lost) <= many - len(lost)]


def spoilt(draw, own, word, chosen):
    """The word with another letter at each of the chosen places."""
    row = list(word)
    for k in chosen:
        row[k] = draw.choice([letter for letter in own if letter != row[k]])
    return tuple(row)
