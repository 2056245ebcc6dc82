"""Words and wheels turned by a number, and wheels told by another root."""

from roundwords.alls import all_wheels
from roundwords.counting import steps_round
from roundwords.errors import NoRoot
from roundwords.fields import many_things, power, round_of
from roundwords.wheels import length, with_marks


def turned_word(word, a):
    """The word with the letter at place k at the rest of k * a."""
    n = len(word)
    told = [0] * n
    for k, letter in enumerate(word):
        told[k * a % n] = letter
    return tuple(told)


def turned_by(wheel, a):
    """The wheel whose words are the words turned by a."""
    n = length(wheel)
    # The value of a turned word at the root's power by i is that of the word at its power by i * a.
    return with_marks(wheel, [i for i in range(n) if i * a % n in wheel[3]])


def turn_between(one, other):
    """The least number by which the one wheel becomes the other; None where there is none."""
    # Beyond n the same turns come again.
    for a in steps_round(length(one)):
        if turned_by(one, a) == other:
            return a
    return None


def by_root(wheel, root):
    """The wheel with this root whose words are the same; refused where its round is another one."""
    field, few, own_root, marks = wheel
    n = length(wheel)
    # What is no thing but 0 has no round, and the round of 0 would be looked for without end.
    if not 0 < root < many_things(field) or round_of(field, root) != n:
        raise NoRoot("the root's round is not that of the wheel")
    noughts = [power(field, own_root, i) for i in marks]
    return (field, few, root, tuple([i for i in range(n) if power(field, root, i) in noughts]))


def turns_of(wheel):
    """All wheels that the wheel becomes by turns, rising."""
    return tuple(sorted({turned_by(wheel, a) for a in steps_round(length(wheel))}))


def kinds(field, few, root):
    """All wheels of the root, those put together that become one another by turns."""
    told = []
    placed = set()
    for wheel in all_wheels(field, few, root):
        if wheel not in placed:
            kind = turns_of(wheel)
            for other in kind:
                placed.add(other)
            told.append(kind)
    return tuple(told)
