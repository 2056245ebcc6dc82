"""The word of a wheel that leaves all its words as they are."""

from roundwords.turning import turned_back
from roundwords.wheels import length


def own_word(wheel):
    """The word whose round product with each word is that word."""
    field, few, root, marks = wheel
    # Turned, a round product is the product place by place, and a word is 0 at its marks whatever stands there.
    values = tuple([0 if i in marks else 1 for i in range(length(wheel))])
    return turned_back(field, root, values)
