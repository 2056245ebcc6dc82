"""Lookers that take papers of rows, without search."""

from roundwords.counting import greatest_common, is_wholes
from roundwords.wheels import length


def is_start(n, first, step):
    """Whether a row of a paper may begin and go on so."""
    return 0 <= first < n and 1 <= step <= n and greatest_common(step, n) == 1


def shows_row(wheel, thing):
    """Whether it is a row paper of the wheel, of anything."""
    if not is_wholes(thing, 3):
        return False
    first, step, many = thing
    n = length(wheel)
    if not is_start(n, first, step) or not 0 <= many <= n:
        return False
    return all([(first + k * step) % n in wheel[3] for k in range(many)])


def shows_wide(wheel, thing):
    """Whether it is a wide paper of the wheel, of anything."""
    if not is_wholes(thing, 5):
        return False
    first, step, many, far, often = thing
    n = length(wheel)
    if not is_start(n, first, step) or not (1 <= many <= n and 1 <= far <= n and 0 <= often <= n):
        return False
    if greatest_common(far, n) > many:
        return False
    return all([(first + k * step + j * far) % n in wheel[3] for k in range(many) for j in range(often + 1)])
