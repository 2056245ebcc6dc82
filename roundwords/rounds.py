"""Words turned round, put together, and taken times a letter."""

from roundwords.fields import plus, times


def rounded(word, by):
    """The word with each letter so many places on, round the end."""
    n = len(word)
    return tuple([word[(k - by) % n] for k in range(n)])


def word_sum(field, one, other):
    """Both put together, place by place."""
    return tuple([plus(field, a, b) for a, b in zip(one, other)])


def word_times(field, one, word):
    """Each thing of the word times the thing one."""
    return tuple([times(field, one, thing) for thing in word])
