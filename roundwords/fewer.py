"""Wheels of fewer letters that lie within a wheel of many, or are its traces."""

from roundwords.counting import number_power
from roundwords.wheels import length, rings


def wheel_of_rings(wheel, fewer, chosen):
    """The wheel of fewer letters whose marks are these rings."""
    field, few, root, marks = wheel
    return (field, fewer, root, tuple(sorted([i for ring in chosen for i in ring])))


def fewer_rings(wheel, fewer):
    """All rings of the wheel's numbers by fewer letters."""
    return rings(length(wheel), number_power(wheel[0][0], fewer))


def few_of(wheel, fewer):
    """The wheel whose words are the wheel's words of fewer letters alone."""
    # What is nought at one number of a ring is, of such letters, nought at the whole ring.
    chosen = [ring for ring in fewer_rings(wheel, fewer) if any([i in wheel[3] for i in ring])]
    return wheel_of_rings(wheel, fewer, chosen)


def traced_of(wheel, fewer):
    """The wheel whose words are all words with each letter's trace in its place."""
    # A trace's value at one number of a ring comes from the word's values at all of them.
    chosen = [ring for ring in fewer_rings(wheel, fewer) if all([i in wheel[3] for i in ring])]
    return wheel_of_rings(wheel, fewer, chosen)
