"""A desk: one wheel that is changed and asked by lines."""

from roundwords.errors import NoLine
from roundwords.lines import changed_by, told_by
from roundwords.reading import read_wheel


class Desk:
    """Keeps a wheel, and the wheels that were there ahead of each change."""

    def __init__(self, text):
        self.wheel = read_wheel(text)
        self.earlier = []

    def say(self, line):
        """The answer to a line, of anything; refused where it is none."""
        if not isinstance(line, str):
            raise NoLine("no text at all")
        if line == "back":
            return self.step_back()
        name, *given = line.split(" ")
        changed = changed_by(self.wheel, name, given)
        if changed is None:
            return told_by(self.wheel, name, given)
        self.earlier.append(self.wheel)
        self.wheel = changed
        return "done"

    def step_back(self):
        """Takes the last change back, if there is one."""
        if self.earlier == []:
            return "none"
        self.wheel = self.earlier.pop()
        return "done"
