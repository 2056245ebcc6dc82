"""A looker that takes a mended word, without search."""

from roundwords.words import is_word


def unlike(one, other, lost):
    """At how many places, but the lost ones, the one is unlike the other."""
    return len([k for k in range(len(one)) if k not in lost and one[k] != other[k]])


def shows_mended(wheel, paper, got, thing):
    """Whether it is a word that is near enough to what was got, of anything as thing."""
    return is_word(wheel, thing) and 2 * unlike(thing, got, ()) <= paper[2]
