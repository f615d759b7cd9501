"""Shells: desks led by lines of words."""

from nearnought.beginnings import height, sums
from nearnought.bounds import HISTORY
from nearnought.errors import AmountError
from nearnought.texts import read_integer

WHAT = "what"


def looked_up(desk, word):
    """The answer to a word that asks for something, None for another word."""
    kinds, rows = desk.load
    if word == "rows":
        return str(len(rows))
    if word == "even":
        return "yes" if bool(desk) else "no"
    if word == "sum":
        return " ".join([str(item) for item in sums(kinds, rows)[-1]])
    if word == "height":
        return str(height(desk.load, tuple(range(len(rows)))))
    return None


def edited(desk, word, numbers):
    """The version behind the edit of the desk, None if these are not the word and numbers of an edit."""
    kinds, many = desk.load[0], len(numbers)
    if word == "add" and many == kinds:
        return desk.add(tuple(numbers))
    if word == "put" and many == 1 + kinds:
        return desk.put(numbers[0], tuple(numbers[1:]))
    if word == "drop" and many == 1:
        return desk.drop(numbers[0])
    if word == "settle" and many == 0:
        return desk.settle()
    if word == "undo" and many == 0:
        return desk.undo()
    return None


def answered(desk, line):
    """The answer to the line; WHAT to one that is not understood."""
    word, *texts = line.split(" ")
    numbers = [read_integer(text) for text in texts]
    if None in numbers:
        return WHAT
    try:
        version = edited(desk, word, numbers)
    except AmountError as error:
        return f"no {error.name()}"
    if version is not None:
        return f"ok {version}"
    found = looked_up(desk, word) if not numbers else None
    return WHAT if found is None else found


class Shell:
    """A desk led by lines, and what was said last."""

    def __init__(self, desk):
        self._desk = desk
        self._said = ()

    @property
    def desk(self):
        """The very desk that the shell works on."""
        return self._desk

    @property
    def history(self):
        """The last pairs of a line and its answer."""
        return self._said

    def say(self, line):
        """Answers the line; anything else than a string is not understood."""
        told = line if isinstance(line, str) else None
        answer = WHAT if told is None else answered(self._desk, told)
        self._said = (self._said + ((told, answer),))[-HISTORY:]
        return answer
