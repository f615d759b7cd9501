"""Loads as texts, and back."""

from nearnought.bounds import MAX_AMOUNT, MAX_KINDS, MAX_ROWS
from nearnought.errors import BadText
from nearnought.forms import is_row, is_within

DIGITS = "0123456789"


def load_text(load):
    """The text of the load: its kinds, and a line for each row."""
    kinds, rows = load
    lines = [" ".join([str(item) for item in row]) for row in rows]
    return "\n".join([str(kinds)] + lines)


def read_integer(text):
    """The integer that is written so, None if there is none of so few digits as an amount has."""
    digits = text.removeprefix("-")
    # Python refuses to read very long numbers, so the length is looked at first.
    if not 1 <= len(digits) <= len(str(MAX_AMOUNT)):
        return None
    if not all([digit in DIGITS for digit in digits]):
        return None
    number = int(text)
    # What is written back otherwise had noughts ahead, or a sign ahead of 0.
    return number if str(number) == text else None


def read_row(line):
    """The tuple of what stands in the line, None for each item that is no integer."""
    return tuple([read_integer(word) for word in line.split(" ")])


def parse_load(value):
    """The load with this text; BadText with the first line that is wrong."""
    if not isinstance(value, str):
        raise BadText(None)
    first, *lines = value.split("\n")
    kinds = read_integer(first)
    if not is_within(kinds, 1, MAX_KINDS):
        raise BadText(0)
    rows = []
    for number, line in enumerate(lines, start=1):
        row = read_row(line)
        if number > MAX_ROWS or not is_row(row, kinds):
            raise BadText(number)
        rows.append(row)
    return (kinds, tuple(rows))
