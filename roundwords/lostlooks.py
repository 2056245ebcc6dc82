"""A looker that takes a word mended where places were lost, without search."""

from roundwords.mendlooks import unlike
from roundwords.words import is_word


def shows_lost(wheel, paper, got, lost, thing):
    """Whether it is a word that is near enough to what was got at the places that aren't lost, of anything as thing."""
    return is_word(wheel, thing) and 2 * unlike(thing, got, lost) <= paper[2] - len(lost)
