"""Where the faults lie that a row tells, and by how much."""

from roundwords.fields import digit_times, minus, over, power, times
from roundwords.rows import row_times, value
from roundwords.wheels import length


def thing_of_place(wheel, paper, k):
    """The thing at which a row is nought that tells of a fault at place k."""
    return power(wheel[0], wheel[2], -k * paper[1])


def places(wheel, paper, row):
    """All places of which the row tells, rising."""
    field = wheel[0]
    return tuple([k for k in range(length(wheel)) if value(field, row, thing_of_place(wheel, paper, k)) == 0])


def derived(field, row):
    """The thing at place i taken i times, moved down one place."""
    return tuple([digit_times(field, i, thing) for i, thing in enumerate(row)][1:])


def worths(wheel, paper, sums, row):
    """By how much each of the row's places is at fault, by these sums; refused where the row is nought there twice."""
    field, few, root, marks = wheel
    first, step, many = paper
    ahead = row_times(field, sums, row)[:many]
    slope = derived(field, row)
    told = []
    for k in places(wheel, paper, row):
        thing = thing_of_place(wheel, paper, k)
        moved = times(field, power(field, root, k * (step - first)), value(field, ahead, thing))
        told.append(over(field, minus(field, 0, moved), value(field, slope, thing)))
    return tuple(told)
