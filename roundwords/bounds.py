"""The best papers of rows that a wheel has."""

from roundwords.counting import greatest_common, steps_round
from roundwords.errors import TooMany
from roundwords.wheels import length

MOST_WIDE = 15


def marked_run(marks, n, first, step):
    """How many numbers, at most n, from first on by step, by rests by n, are marks."""
    many = 0
    while many < n and (first + many * step) % n in marks:
        many += 1
    return many


def best_row(wheel):
    """The first of the row papers of the greatest many."""
    n = length(wheel)
    best = (0, 1, 0)
    for first in range(n):
        for step in steps_round(n):
            many = marked_run(wheel[3], n, first, step)
            if many > best[2]:
                best = (first, step, many)
    return best


def runs_again(runs, first, many, far):
    """How often, at most as often as there are runs, one may go far from first and find a run of many."""
    n = len(runs)
    often = 0
    while often < n and runs[(first + (often + 1) * far) % n] >= many:
        often += 1
    return often


def wide_papers(marks, n, first, step):
    """Of each many and far the wide paper that tells most, rising."""
    runs = [marked_run(marks, n, start, step) for start in range(n)]
    papers = []
    for many in range(1, runs[first] + 1):
        for far in range(1, n + 1):
            if greatest_common(far, n) <= many:
                papers.append((first, step, many, far, runs_again(runs, first, many, far)))
    return papers


def best_wide(wheel):
    """The first of the wide papers that tell most, or None."""
    n = length(wheel)
    if n > MOST_WIDE:
        raise TooMany("the wheel is too long to go through its wide papers")
    best = None
    for first in range(n):
        for step in steps_round(n):
            for paper in wide_papers(wheel[3], n, first, step):
                if best is None or paper[2] + paper[4] > best[2] + best[4]:
                    best = paper
    return best
