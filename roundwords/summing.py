"""Sums: the values by which a row that was got is unlike a word."""

from roundwords.fields import power
from roundwords.rows import value


def sums(wheel, paper, got):
    """The values of what was got at the powers of the root that the row paper tells, in its order."""
    field, few, root, marks = wheel
    first, step, many = paper
    return tuple([value(field, got, power(field, root, first + k * step)) for k in range(many)])
