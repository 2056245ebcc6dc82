"""The words of a wheel: how they are known, made and counted."""

from roundwords.counting import is_whole, number_power
from roundwords.errors import TooMany
from roundwords.fields import minus, power
from roundwords.letters import letters
from roundwords.rounds import word_sum, word_times
from roundwords.rows import row_over, row_times, trimmed, value, widened
from roundwords.wheels import length

MOST_WORDS = 4096


def is_letters(wheel, thing):
    """Whether it is a tuple of as many letters as a word of the wheel has, of anything."""
    if not isinstance(thing, tuple) or len(thing) != length(wheel):
        return False
    own = letters(wheel[0], wheel[1])
    # A truth equals a number, so the kind is asked first.
    return all([is_whole(letter) and letter in own for letter in thing])


def is_word(wheel, thing):
    """Whether it is a word of the wheel, of anything."""
    if not is_letters(wheel, thing):
        return False
    field, few, root, marks = wheel
    for mark in marks:
        if value(field, thing, power(field, root, mark)) != 0:
            return False
    return True


def row_of_roots(field, root, powers):
    """The product of x less root ** i for all these i."""
    row = (1,)
    for i in powers:
        row = row_times(field, row, (minus(field, 0, power(field, root, i)), 1))
    return row


def maker(wheel):
    """The row that is nought at the marks alone, each once."""
    field, few, root, marks = wheel
    return row_of_roots(field, root, marks)


def checker(wheel):
    """The row that is nought where no mark is, each once."""
    field, few, root, marks = wheel
    return row_of_roots(field, root, [i for i in range(length(wheel)) if i not in marks])


def free(wheel):
    """How many letters of a word may be chosen."""
    return length(wheel) - len(wheel[3])


def how_many(wheel):
    """How many words there are."""
    q = number_power(wheel[0][0], wheel[1])
    return number_power(q, free(wheel))


def made(wheel, given):
    """The word whose last letters are the given ones, as many as are free."""
    field, few, root, marks = wheel
    bound = len(marks)
    # What is left over by the maker must go, and it is no longer than the places ahead of the given letters.
    rest = row_over(field, trimmed((0,) * bound + given), maker(wheel))[1]
    return tuple([minus(field, 0, thing) for thing in widened(rest, bound)]) + given


def words(wheel):
    """All words of the wheel, rising."""
    if how_many(wheel) > MOST_WORDS:
        raise TooMany("the wheel has too many words to tell them all")
    field = wheel[0]
    own = letters(field, wheel[1])
    many = free(wheel)
    found = [made(wheel, (0,) * many)]
    for place in range(many):
        alone = made(wheel, (0,) * place + (1,) + (0,) * (many - place - 1))
        multiples = [word_times(field, letter, alone) for letter in own]
        found = [word_sum(field, word, multiple) for word in found for multiple in multiples]
    return tuple(sorted(found))
