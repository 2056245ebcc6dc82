"""Rows: sums of powers of x, told by the things that stand ahead of the powers."""

from roundwords.errors import ByNought
from roundwords.fields import minus, over, plus, times


def trimmed(things):
    """The row of these things: no 0 stands at its end."""
    end = len(things)
    while end > 0 and things[end - 1] == 0:
        end -= 1
    return tuple(things[:end])


def widened(row, many):
    """The row as a list of so many things, 0 behind its end."""
    return list(row) + [0] * (many - len(row))


def row_sum(field, one, other):
    """Both rows together."""
    many = max(len(one), len(other))
    return trimmed([plus(field, a, b) for a, b in zip(widened(one, many), widened(other, many))])


def row_less(field, one, other):
    """The one row less the other."""
    many = max(len(one), len(other))
    return trimmed([minus(field, a, b) for a, b in zip(widened(one, many), widened(other, many))])


def row_times(field, one, other):
    """The product of both rows."""
    product = [0] * (len(one) + len(other))
    for i, a in enumerate(one):
        for j, b in enumerate(other):
            product[i + j] = plus(field, product[i + j], times(field, a, b))
    return trimmed(product)


def row_over(field, one, other):
    """(quotient, rest): other times quotient and rest together are one, rest shorter than other."""
    if other == ():
        raise ByNought("no row is parted by nought")
    rest = list(one)
    quotient = [0] * max(0, len(one) - len(other) + 1)
    for at in reversed(range(len(quotient))):
        factor = over(field, rest[at + len(other) - 1], other[-1])
        quotient[at] = factor
        for k, thing in enumerate(other):
            rest[at + k] = minus(field, rest[at + k], times(field, factor, thing))
    return (trimmed(quotient), trimmed(rest))


def common(field, one, other):
    """The longest row that parts both, its last thing 1; () of nought and nought."""
    while other != ():
        one, other = other, row_over(field, one, other)[1]
    return tuple([over(field, thing, one[-1]) for thing in one])


def value(field, row, one):
    """The value of any tuple of things where x is one."""
    total = 0
    for thing in reversed(row):
        total = plus(field, times(field, total, one), thing)
    return total
