"""Letters: the things of a smaller field within a field."""

from roundwords.counting import number_power
from roundwords.fields import many_things, plus, power


def letters(field, few):
    """All things whose power by p ** few is themselves, rising."""
    q = number_power(field[0], few)
    return tuple([one for one in range(many_things(field)) if power(field, one, q) == one])


def trace(field, few, fewer, one):
    """The sum of the powers of one by p ** (fewer * k), for all k below few / fewer: a letter by fewer."""
    q = number_power(field[0], fewer)
    total = 0
    for k in range(few // fewer):
        total = plus(field, total, one)
        one = power(field, one, q)
    return total
