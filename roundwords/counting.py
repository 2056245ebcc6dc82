"""What the other files need of whole numbers alone."""


def is_whole(thing):
    """Whether it is a whole number; a truth is none."""
    return isinstance(thing, int) and not isinstance(thing, bool)


def is_wholes(thing, many):
    """Whether it is a tuple of just so many whole numbers."""
    if not isinstance(thing, tuple) or len(thing) != many:
        return False
    return all([is_whole(part) for part in thing])


def number_power(base, many):
    """The product of so many times base, many from 0."""
    product = 1
    for step in range(many):
        product *= base
    return product


def greatest_common(one, other):
    """The greatest number that parts both, of numbers from 1."""
    while other != 0:
        one, other = other, one % other
    return one


def is_prime(number):
    """Whether a number from 2 is parted by 1 and itself alone."""
    for low in range(2, number):
        if number % low == 0:
            return False
    return True


def steps_round(n):
    """All numbers from 1 to n that share no divisor above 1 with n, rising."""
    return [step for step in range(1, n + 1) if greatest_common(step, n) == 1]


def choices(n, k):
    """The number of ways to choose k of n."""
    ways = 1
    for at in range(k):
        # Parted behind each step, ways is how many there are to choose at + 1 of n: a whole number.
        ways = ways * (n - at) // (at + 1)
    return ways
