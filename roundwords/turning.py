"""Rows turned into their values at a root's powers, and back, and products round the end."""

from roundwords.fields import over, plus, power, times
from roundwords.rounds import word_times
from roundwords.rows import value


def turned(field, root, row):
    """The values of a tuple of as many things as the root's round, at each of the root's powers."""
    return tuple([value(field, row, power(field, root, i)) for i in range(len(row))])


def turned_back(field, root, row):
    """The tuple that turned is this one."""
    # Turned once more, by 1 over root, each thing comes as often as there are things; that many is never 0 here.
    often = len(row) % field[0]
    return word_times(field, over(field, 1, often), turned(field, over(field, 1, root), row))


def round_product(field, one, other):
    """The product of two tuples of as many things, what goes beyond the end coming in again at place 0."""
    n = len(one)
    product = [0] * n
    for i, a in enumerate(one):
        for j, b in enumerate(other):
            k = (i + j) % n
            product[k] = plus(field, product[k], times(field, a, b))
    return tuple(product)
