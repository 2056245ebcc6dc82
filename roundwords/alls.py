"""All wheels of a root."""

from roundwords.counting import number_power
from roundwords.errors import TooMany
from roundwords.fields import round_of
from roundwords.wheels import rings

MOST_RINGS = 10


def all_wheels(field, few, root):
    """All wheels with these, their marks rising."""
    every = rings(round_of(field, root), number_power(field[0], few))
    if len(every) > MOST_RINGS:
        raise TooMany("the root has too many rings to tell all its wheels")
    # Marks are closed under times q just where they are made of whole rings.
    chosen = [()]
    for ring in every:
        chosen = chosen + [tuple(sorted(marks + ring)) for marks in chosen]
    return tuple([(field, few, root, marks) for marks in sorted(chosen)])
