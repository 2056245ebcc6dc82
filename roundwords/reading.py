"""Texts read as numbers, fields and wheels, just as they are written."""

from roundwords.errors import NoText
from roundwords.fields import is_field
from roundwords.wheels import is_wheel

FIGURES = "0123456789"
MOST = 1000000000
MOST_FIGURES = 10


def is_figures(text):
    """Whether the text is a number's figures, no 0 ahead, and not too many of them."""
    # Held against the figures themselves, since those of other scripts are digits to Python, too.
    if not 1 <= len(text) <= MOST_FIGURES or not all([sign in FIGURES for sign in text]):
        return False
    return text == "0" or text[0] != "0"


def read_number(text):
    """The number that the text is written by."""
    if not is_figures(text) or int(text) > MOST:
        raise NoText("no number is written so")
    return int(text)


def read_numbers(text):
    """The tuple of numbers that is written so, of anything."""
    if not isinstance(text, str):
        raise NoText("no text at all")
    if text == "-":
        return ()
    return tuple([read_number(part) for part in text.split(".")])


def read_field(text):
    """The field that is written so, of anything."""
    field = read_numbers(text)
    if not is_field(field):
        raise NoText("no field is written so")
    return field


def read_wheel(text):
    """The wheel that is written so, of anything."""
    if not isinstance(text, str):
        raise NoText("no text at all")
    parts = text.split("/")
    if len(parts) != 4:
        raise NoText("a wheel is written in four parts")
    wheel = (read_field(parts[0]), read_number(parts[1]), read_number(parts[2]), read_numbers(parts[3]))
    if not is_wheel(wheel):
        raise NoText("no wheel is written so")
    return wheel
