"""Numbers, fields and wheels as texts."""

GROUP_LONG = 64
GROUP = 10 ** 64


def show_number(number):
    """The number by its figures."""
    groups = []
    # Python itself writes no number of more than some thousand figures at once.
    while number >= GROUP:
        groups.append(str(number % GROUP).zfill(GROUP_LONG))
        number //= GROUP
    groups.append(str(number))
    return "".join(reversed(groups))


def show_numbers(row):
    """A tuple of numbers, points between."""
    if row == ():
        return "-"
    return ".".join([show_number(number) for number in row])


def show_field(field):
    """A field, points between."""
    return show_numbers(field)


def show_wheel(wheel):
    """A wheel: its field, few, root and marks, strokes between."""
    field, few, root, marks = wheel
    return "/".join([show_field(field), show_number(few), show_number(root), show_numbers(marks)])
