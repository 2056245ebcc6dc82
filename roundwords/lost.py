"""Mending where some places are known to be lost."""

from roundwords.errors import TooMany
from roundwords.fields import minus, power
from roundwords.mending import faults_by, last_near, less_faults
from roundwords.rows import row_times, widened
from roundwords.summing import sums


def lost_row(wheel, paper, lost):
    """The row that tells of the lost places alone."""
    field = wheel[0]
    row = (1,)
    for k in lost:
        row = row_times(field, row, (1, minus(field, 0, power(field, wheel[2], k * paper[1]))))
    return row


def sums_left(wheel, paper, got, row):
    """Sums of the faults at other places alone, as many as the paper has more than the row tells of."""
    many = paper[2]
    # Times the row, what comes from the lost places ends ahead of as many things as there are such places.
    product = row_times(wheel[0], sums(wheel, paper, got), row)
    return tuple(widened(product, many)[len(row) - 1:many])


def mended_lost(wheel, paper, got, lost):
    """The word to which what was got is near enough at the places that aren't lost, or None."""
    field = wheel[0]
    left = paper[2] - len(lost)
    if left < 0:
        raise TooMany("more places are lost than the paper has sums")
    row = lost_row(wheel, paper, lost)
    long, other_row = last_near(field, sums_left(wheel, paper, got, row))
    if 2 * long > left:
        return None
    found = faults_by(wheel, paper, got, row_times(field, row, other_row), long + len(lost))
    return less_faults(field, got, found)
