"""Texts and a desk's lines, read by patterns, for the tests to hold the program against."""

import math
import re

import plainwheels
from plainly import table

from roundwords.bounds import best_row, best_wide
from roundwords.errors import TooMany
from roundwords.facing import facing
from roundwords.fewer import few_of, traced_of
from roundwords.leasts import counts, least
from roundwords.lost import mended_lost
from roundwords.mending import mended
from roundwords.owns import own_word
from roundwords.turns import turned_by
from roundwords.words import checker, free, is_word, made, maker

NUMBER = "(?:0|[1-9][0-9]*)"
NUMBERS = rf"(?:-|{NUMBER}(?:\.{NUMBER})*)"

# Texts that are nearly numbers, or nearly tuples of them.
ODD_TEXTS = ["", " ", "  ", ".", "..", "/", "//", "///", "-.", ".-", "--", "-1", "+1", "1.", ".1", "1..2", "01", "00", "0.01",
             "1.00", "1.-", "-.1", " 1", "1 ", "1. 2", "1 .2", "1 2", "1,2", "1\n", "\n1", "1.2\n", "-\n", "\n", "\t", "1\t",
             "1\r", "1_0", "1_000", "0x1", "1e3", "1.2.", "\u0661", "1.\u0662", "\uff11", "\u00b2", "1\u00b2", "\u2460", "\u00bd",
             "\u0967", "\U0001d7d8", "\U0001d7ce.\U0001d7cf", "\u2212", "\u2013", "1\u00a0", "\u200b1", "\ud800", "1\x00", "\x00",
             "one", "None", "True", "()", "(1,)", "[1]", "1/2", "0/", "a", "A", "1a", "1000000001", "9999999999", "10000000000",
             "0.1000000001", "9" * 50, "9" * 5000, "0" * 20, "1" + "0" * 9 + ".1" + "0" * 8 + "1", "2.3.3/1/2/1.2.4/",
             "2.3.3/1/2", "2.3.3/1/2/", "/2.3.3/1/2/1.2.4", "2.3.3//2/1.2.4", "2.3.3/1//1.2.4", "2.3.3/1/2/1.2.4 ",
             " 2.3.3/1/2/1.2.4", "2.3.3/1/2/1.2.4\n", "2.3.3/1/2/1.2.4.", "2.3.3/1/2/1..2.4", "2.3.3 /1/2/1.2.4",
             "2.3.3/-/2/1.2.4", "2.3.3/1/-/1.2.4", "-/1/2/1.2.4", "2.3.3/1/2/--", "2.3.3/1/2/-1", "2.3.3/01/2/1.2.4",
             "2.3.3/1/02/1.2.4", "2.3.03/1/2/1.2.4", "2.3.3/1/2/01.2.4", "2.3.3/1.1/2/1.2.4", "2.3.3/1/2.2/1.2.4",
             "2.3.3/1/2/1.2.4/1", "2.3/1/2/1.2.4", "2.3.3.3/1/2/1.2.4", "2.3.3/+1/2/1.2.4", "2.3.3/1/2/1.2.\u0664"]


def numbers(text):
    """The tuple of numbers that is written so, or None."""
    if type(text) is not str or not re.fullmatch(NUMBERS, text):
        return None
    found = tuple(int(part) for part in text.split(".") if len(part) < 12) if text != "-" else ()
    if text != "-" and (len(found) != text.count(".") + 1 or max(found) > 10 ** 9):
        return None
    return found


def show(row):
    return ".".join(str(number) for number in row) if row else "-"


def show_wheel(wheel):
    field, few, root, marks = wheel
    return f"{show(field)}/{few}/{root}/{show(marks)}"


def letters_of(wheel, text, many):
    found = numbers(text)
    own = table(wheel[0]).letters(wheel[1])
    return found if found is not None and len(found) == many and set(found) <= set(own) else None


def changed(wheel, words):
    """The wheel that the line makes of this one, or None."""
    n = plainwheels.length(wheel[0], wheel[2])
    if words == ["face"]:
        return facing(wheel)
    if len(words) != 2:
        return None
    name, given = words[0], numbers(words[1])
    if name == "marks" and given is not None and plainwheels.is_wheel(wheel[:3] + (given,)):
        return wheel[:3] + (given,)
    if given is None or len(given) != 1 or words[1] == "-":
        return None
    number = given[0]
    if name == "turn" and 1 <= number <= n and math.gcd(number, n) == 1:
        return turned_by(wheel, number)
    if name in ("few", "trace") and number and wheel[1] % number == 0:
        return few_of(wheel, number) if name == "few" else traced_of(wheel, number)
    return None


def refused_great(what, wheel):
    try:
        return what(wheel)
    except TooMany:
        return "great"


def told_alone(wheel, name):
    if name == "wheel":
        return show_wheel(wheel)
    if name in ("maker", "checker", "own"):
        return show({"maker": maker, "checker": checker, "own": own_word}[name](wheel))
    if name == "free":
        return str(free(wheel))
    if name == "row":
        first, step, many = best_row(wheel)
        return f"{first} {step} {many} {many + 1}"
    if name not in ("least", "counts", "wide"):
        return None
    found = refused_great({"least": least, "counts": counts, "wide": best_wide}[name], wheel)
    if found == "great" or found is None:
        return found or "none"
    if name == "least":
        return f"{found[0]} {show(found[1])}"
    if name == "counts":
        return show(found)
    return " ".join(str(number) for number in found) + f" {found[2] + 1 + found[4]}"


def told_lost(wheel, places, got):
    n = plainwheels.length(wheel[0], wheel[2])
    if places is None or got is None or list(places) != sorted(set(places)) or any(k >= n for k in places):
        return None
    try:
        found = mended_lost(wheel, best_row(wheel), got, places)
    except TooMany:
        return "none"
    return "none" if found is None else show(found)


def told(wheel, words):
    """What the line tells of the wheel, or None."""
    n = plainwheels.length(wheel[0], wheel[2])
    if len(words) == 1:
        return told_alone(wheel, words[0])
    if len(words) == 3 and words[0] == "lost":
        return told_lost(wheel, numbers(words[1]), letters_of(wheel, words[2], n))
    if len(words) != 2 or words[0] not in ("made", "word", "mend"):
        return None
    got = letters_of(wheel, words[1], n - len(wheel[3]) if words[0] == "made" else n)
    if got is None:
        return None
    if words[0] == "word":
        return "yes" if is_word(wheel, got) else "no"
    found = made(wheel, got) if words[0] == "made" else mended(wheel, best_row(wheel), got)
    return "none" if found is None else show(found)


class PlainDesk:
    """Keeps all wheels there were, the last one being the wheel now; answers None where a line is none."""

    def __init__(self, wheel):
        self.wheels = [wheel]

    def say(self, line):
        if type(line) is not str:
            return None
        if line == "back":
            if len(self.wheels) == 1:
                return "none"
            self.wheels.pop()
            return "done"
        words = line.split(" ")
        found = changed(self.wheels[-1], words)
        if found is None:
            return told(self.wheels[-1], words)
        self.wheels.append(found)
        return "done"
