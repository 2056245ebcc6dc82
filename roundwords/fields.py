"""Fields: few things that can be put together, taken times each other, and parted."""

from roundwords.counting import is_prime, is_wholes, number_power
from roundwords.errors import ByNought, NoRoot

MOST_THINGS = 64


def many_things(field):
    """How many things the field has."""
    return number_power(field[0], field[1])


def plus(field, one, other):
    """Both put together, digit by digit."""
    p = field[0]
    total = 0
    unit = 1
    while one > 0 or other > 0:
        # The rest of a number by p is that of its lowest digit, so no digit need be cut out first.
        total += (one + other) % p * unit
        one //= p
        other //= p
        unit *= p
    return total


def digit_times(field, digit, one):
    """Each digit of one taken so many times."""
    p = field[0]
    total = 0
    unit = 1
    while one > 0:
        total += digit * one % p * unit
        one //= p
        unit *= p
    return total


def minus(field, one, other):
    """The thing that together with other is one."""
    # p - 1 of a digit and the digit itself are 0 by rests by p.
    return plus(field, one, digit_times(field, field[0] - 1, other))


def lifted(field, one):
    """The thing with each digit one place up; for the last, which has no place, comes so many times top."""
    p, m, top = field
    last_unit = number_power(p, m - 1)
    moved = one % last_unit * p
    return plus(field, moved, digit_times(field, one // last_unit, top))


def times(field, one, other):
    """The product: each digit of one, times other lifted as often as the digit's place."""
    p = field[0]
    total = 0
    while one > 0:
        total = plus(field, total, digit_times(field, one % p, other))
        one //= p
        if one > 0:
            other = lifted(field, other)
    return total


def times_itself(field, one, many):
    """So many of one times each other, many from 0."""
    product = 1
    while many > 0:
        if many % 2 == 1:
            product = times(field, product, one)
        many //= 2
        if many > 0:
            one = times(field, one, one)
    return product


def over(field, one, other):
    """The thing that times other is one."""
    if other == 0:
        raise ByNought("nothing is parted by 0")
    # So many of other as there are things but 0 make 1; one fewer makes what brings other to 1.
    return times(field, one, times_itself(field, other, many_things(field) - 2))


def power(field, one, many):
    """So many of one times each other; below nought 1 over as many."""
    if many == 0:
        return 1
    if one == 0:
        if many < 0:
            raise ByNought("0 has no power below nought")
        return 0
    # The powers come round after as many as there are things but 0, so great numbers need few steps.
    return times_itself(field, one, many % (many_things(field) - 1))


def round_of(field, one):
    """The least many from 1 for which the power of one, not 0, is 1."""
    many = 1
    product = one
    while product != 1:
        product = times(field, product, one)
        many += 1
    return many


def root_of(field, n):
    """The least thing whose round is n."""
    others = many_things(field) - 1
    if n >= 1 and others % n == 0:
        for one in range(1, others + 1):
            if round_of(field, one) == n:
                return one
    raise NoRoot("no thing of the field has this round")


def all_come_to_one(field):
    """Whether each thing but 0, taken as often as there are such, makes 1."""
    others = many_things(field) - 1
    for one in range(1, others + 1):
        if times_itself(field, one, others) != 1:
            return False
    return True


def is_field(thing):
    """Whether it is a field, of anything."""
    if not is_wholes(thing, 3):
        return False
    p, m, top = thing
    # Bounded first, since a test of a very great number would not end.
    if not (2 <= p <= MOST_THINGS and 1 <= m <= MOST_THINGS and is_prime(p)):
        return False
    many = many_things(thing)
    if many > MOST_THINGS or not 0 <= top < many:
        return False
    # A thing that comes to 1 can be brought to 1, so no product of two such is 0; and in a field each comes to 1.
    return all_come_to_one(thing)


def field_of(p, m):
    """The field of the least top, p a prime."""
    for top in range(number_power(p, m)):
        if all_come_to_one((p, m, top)):
            return (p, m, top)
    return None
