"""The lines of a desk: what a wheel becomes by one, and what is told of it."""

from roundwords.bounds import best_row, best_wide
from roundwords.counting import greatest_common
from roundwords.errors import NoLine, NoText, TooMany
from roundwords.facing import facing
from roundwords.fewer import few_of, traced_of
from roundwords.leasts import counts, least
from roundwords.letters import letters
from roundwords.lost import mended_lost
from roundwords.mending import mended
from roundwords.owns import own_word
from roundwords.reading import read_numbers
from roundwords.showing import show_number, show_numbers, show_wheel
from roundwords.turns import turned_by
from roundwords.wheels import is_rising, is_wheel, length, with_marks
from roundwords.words import checker, free, is_word, made, maker


def numbers_in(text):
    """The tuple of numbers that a line's word is written by."""
    try:
        return read_numbers(text)
    except NoText:
        raise NoLine("a word of the line is no tuple of numbers")


def number_in(text):
    """The one number that a line's word is written by."""
    found = numbers_in(text)
    if len(found) != 1:
        raise NoLine("a word of the line is no number")
    return found[0]


def letters_in(wheel, text, many):
    """The so many letters of the wheel that a line's word is written by."""
    found = numbers_in(text)
    own = letters(wheel[0], wheel[1])
    if len(found) != many or not all([letter in own for letter in found]):
        raise NoLine("a word of the line is not so many letters of the wheel")
    return found


def fewer_in(wheel, text):
    """The number, parting the wheel's few, that a line's word is written by."""
    found = number_in(text)
    if found == 0 or wheel[1] % found != 0:
        raise NoLine("the wheel's letters have no such fewer ones")
    return found


def turn_line(wheel, text):
    """The wheel turned."""
    a = number_in(text)
    n = length(wheel)
    if not 1 <= a <= n or greatest_common(a, n) != 1:
        raise NoLine("no wheel of this length is turned so")
    return turned_by(wheel, a)


def few_line(wheel, text):
    """The wheel of its words of fewer letters."""
    return few_of(wheel, fewer_in(wheel, text))


def trace_line(wheel, text):
    """The wheel of its words' traces."""
    return traced_of(wheel, fewer_in(wheel, text))


def marks_line(wheel, text):
    """The wheel with other marks."""
    other = with_marks(wheel, numbers_in(text))
    if not is_wheel(other):
        raise NoLine("the wheel can't have these marks")
    return other


def shown_word(found):
    """A word, or that there is none."""
    return "none" if found is None else show_numbers(found)


def shown_apart(numbers):
    """Numbers, blanks between."""
    return " ".join([show_number(number) for number in numbers])


def wheel_line(wheel):
    """The wheel's text."""
    return show_wheel(wheel)


def maker_line(wheel):
    """The row that makes the words."""
    return show_numbers(maker(wheel))


def checker_line(wheel):
    """The row that checks the words."""
    return show_numbers(checker(wheel))


def free_line(wheel):
    """How many letters are free."""
    return show_number(free(wheel))


def row_line(wheel):
    """The best row paper and what it tells."""
    paper = best_row(wheel)
    return shown_apart(paper + (paper[2] + 1,))


def least_line(wheel):
    """The least weight and the first word of it."""
    found = least(wheel)
    return "none" if found is None else show_number(found[0]) + " " + show_numbers(found[1])


def counts_line(wheel):
    """How many words have which weight."""
    return show_numbers(counts(wheel))


def own_line(wheel):
    """The own word."""
    return show_numbers(own_word(wheel))


def wide_line(wheel):
    """The best wide paper and what it tells."""
    paper = best_wide(wheel)
    return "none" if paper is None else shown_apart(paper + (paper[2] + 1 + paper[4],))


def made_line(wheel, text):
    """The word with these free letters."""
    return show_numbers(made(wheel, letters_in(wheel, text, free(wheel))))


def word_line(wheel, text):
    """Whether these letters are a word."""
    return "yes" if is_word(wheel, letters_in(wheel, text, length(wheel))) else "no"


def mend_line(wheel, text):
    """The word to which these letters are mended."""
    return shown_word(mended(wheel, best_row(wheel), letters_in(wheel, text, length(wheel))))


def lost_line(wheel, places_text, text):
    """The word to which these letters are mended, with places lost."""
    n = length(wheel)
    lost = numbers_in(places_text)
    if not is_rising(lost, n):
        raise NoLine("the lost places are not rising places of the wheel")
    got = letters_in(wheel, text, n)
    try:
        return shown_word(mended_lost(wheel, best_row(wheel), got, lost))
    except TooMany:
        return "none"


CHANGES = {"turn": turn_line, "few": few_line, "trace": trace_line, "marks": marks_line}
TOLD = {
    "wheel": wheel_line, "maker": maker_line, "checker": checker_line, "free": free_line, "row": row_line,
    "least": least_line, "counts": counts_line, "own": own_line, "wide": wide_line,
}
TOLD_WITH = {"made": made_line, "word": word_line, "mend": mend_line}


def changed_by(wheel, name, given):
    """The wheel that the line makes of this one; None where the line is none that changes."""
    if name == "face" and given == []:
        return facing(wheel)
    if name in CHANGES and len(given) == 1:
        deed = CHANGES[name]
        return deed(wheel, given[0])
    return None


def told_alone(wheel, name):
    """What a line of one word tells of the wheel."""
    deed = TOLD[name]
    # Of these lines least, counts and wide alone may be refused so.
    try:
        return deed(wheel)
    except TooMany:
        return "great"


def told_by(wheel, name, given):
    """What the line tells of the wheel."""
    if name in TOLD and given == []:
        return told_alone(wheel, name)
    if name in TOLD_WITH and len(given) == 1:
        deed = TOLD_WITH[name]
        return deed(wheel, given[0])
    if name == "lost" and len(given) == 2:
        return lost_line(wheel, given[0], given[1])
    raise NoLine("no such line is known")
