"""Mending: the word that is near enough to what was got, by a row paper."""

from roundwords.fields import minus
from roundwords.nearing import nearing
from roundwords.summing import sums
from roundwords.words import is_word
from roundwords.worths import places, worths


def last_near(field, told):
    """(length, row): how near these sums were brought at last."""
    steps = nearing(field, told)
    if steps == ():
        return (0, (1,))
    return (steps[-1][1], steps[-1][2])


def less_faults(field, got, found):
    """What was got less the worths of the faults found; None where none are told."""
    if found is None:
        return None
    rest = list(got)
    for place, worth in found:
        rest[place] = minus(field, rest[place], worth)
    return tuple(rest)


def faults_by(wheel, paper, got, row, many):
    """(place, worth) for the row's places, where they are so many and got less these is a word; else None."""
    spots = places(wheel, paper, row)
    # A row no longer than many + 1 that is nought at so many places is so at each once: no worth is refused.
    if len(spots) != many:
        return None
    found = tuple(zip(spots, worths(wheel, paper, sums(wheel, paper, got), row)))
    if not is_word(wheel, less_faults(wheel[0], got, found)):
        return None
    return found


def faults(wheel, paper, got):
    """(place, worth) for each fault, rising, where they are at most half the paper's many; else None."""
    long, row = last_near(wheel[0], sums(wheel, paper, got))
    if 2 * long > paper[2]:
        return None
    return faults_by(wheel, paper, got, row, long)


def mended(wheel, paper, got):
    """The word that is unlike what was got at no more places than half the paper's many, or None."""
    return less_faults(wheel[0], got, faults(wheel, paper, got))
