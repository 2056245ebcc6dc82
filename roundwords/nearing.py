"""Nearing: the row of the least length that tells sums on, found sum by sum."""

from roundwords.fields import over, plus, times
from roundwords.rounds import word_times
from roundwords.rows import row_less, widened


def gap_at(field, sums, k, row, length):
    """What sum number k, and the row's things times the sums ahead of it, are together."""
    things = widened(row, length + 1)
    gap = 0
    for i in range(length + 1):
        gap = plus(field, gap, times(field, things[i], sums[k - i]))
    return gap


def nearing(field, sums):
    """The tuple of (gap, length, row), behind each sum."""
    row = (1,)
    length = 0
    before = (1,)
    gap_before = 1
    far = 1
    told = []
    for k in range(len(sums)):
        gap = gap_at(field, sums, k, row, length)
        if gap == 0:
            far += 1
        else:
            part = word_times(field, over(field, gap, gap_before), before)
            better = row_less(field, row, (0,) * far + part)
            if 2 * length <= k:
                before = row
                gap_before = gap
                far = 1
                length = k + 1 - length
            else:
                far += 1
            row = better
        told.append((gap, length, row))
    return tuple(told)
