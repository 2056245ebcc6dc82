"""Facing wheels: their words are those whose products with all words of a wheel are 0."""

from roundwords.fields import plus, times
from roundwords.wheels import length, with_marks


def product(field, one, other):
    """The sum of the products place by place, of tuples of as many things."""
    total = 0
    for a, b in zip(one, other):
        total = plus(field, total, times(field, a, b))
    return total


def facing(wheel):
    """The wheel whose words are all tuples of letters whose products with each word are 0."""
    n = length(wheel)
    # The products with a word and all its rounds are what the round product with the word read backwards holds;
    # turned, that is 0 everywhere just where at each number one of the two is: the other one at its opposite.
    return with_marks(wheel, [i for i in range(n) if -i % n not in wheel[3]])


def shares(q, n, v):
    """K(w, v) for all w from 0 to n: how much a word of weight v gives to the facing count at w."""
    # K(w, v) stands at place w in the product of v times (1, -1) and n - v times (1, q - 1).
    row = [1]
    for step in range(n):
        factor = -1 if step < v else q - 1
        row = [a + factor * b for a, b in zip(row + [0], [0] + row)]
    return row


def facing_counts(q, counts):
    """The counts of the facing wheel, by those of a wheel of q letters."""
    n = len(counts) - 1
    totals = [0] * (n + 1)
    for v, many in enumerate(counts):
        totals = [total + many * share for total, share in zip(totals, shares(q, n, v))]
    return tuple([total // sum(counts) for total in totals])
