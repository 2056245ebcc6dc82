"""The least: at how few places two words are unlike, and how many words have which weight."""

from roundwords.counting import choices, number_power
from roundwords.wheels import length
from roundwords.words import words


def weight(word):
    """How many of its things aren't 0."""
    return len([thing for thing in word if thing != 0])


def least(wheel):
    """(many, word): the least weight of the words that aren't all 0, and the first of these; None where none is so."""
    best = None
    for word in words(wheel):
        many = weight(word)
        if many > 0 and (best is None or many < best[0]):
            best = (many, word)
    return best


def counts(wheel):
    """How many words have weight 0, 1 and on."""
    found = [0] * (length(wheel) + 1)
    for word in words(wheel):
        found[weight(word)] += 1
    return tuple(found)


def wide_count(q, n, many, w):
    """How many words have weight w, from 1; none where w is at most many, since nothing is summed then."""
    total = 0
    sign = 1
    for j in range(w - many):
        total += sign * choices(w, j) * (number_power(q, w - many - j) - 1)
        sign = -sign
    return choices(n, w) * total


def wide_counts(q, n, many):
    """The counts of a wheel of all letters whose marks are just those of a row paper of many."""
    return tuple([1] + [wide_count(q, n, many, w) for w in range(1, n + 1)])
