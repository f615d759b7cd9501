"""Loads made of other loads."""

from nearnought.beginnings import added, multiplied
from nearnought.bounds import MAX_KINDS, MAX_ROWS
from nearnought.errors import TooGreat, TooMany, Unfit
from nearnought.forms import is_row


def must_have_room(many):
    """Raises TooMany if so many rows are too many for a load."""
    if many > MAX_ROWS:
        raise TooMany(MAX_ROWS)


def must_be_row(row, index):
    """Raises TooGreat with the index if the tuple of integers has too great an amount for a row."""
    if not is_row(row, len(row)):
        raise TooGreat(index)


def joined(one, other):
    """The load of the rows of one and behind them those of other."""
    if one[0] != other[0]:
        raise Unfit()
    must_have_room(len(one[1]) + len(other[1]))
    return (one[0], one[1] + other[1])


def beside(one, other):
    """The load with the kinds of one and behind them those of other."""
    kinds, more = one[0], other[0]
    if kinds + more > MAX_KINDS:
        raise TooMany(MAX_KINDS)
    must_have_room(len(one[1]) + len(other[1]))
    ahead = [row + (0,) * more for row in one[1]]
    behind = [(0,) * kinds + row for row in other[1]]
    return (kinds + more, tuple(ahead + behind))


def scaled(load, times):
    """The load with all amounts multiplied."""
    kinds, rows = load
    found = [multiplied(row, times) for row in rows]
    for index, row in enumerate(found):
        must_be_row(row, index)
    return (kinds, tuple(found))


def negated(load):
    """The load with the sign of each amount turned."""
    return scaled(load, -1)


def of_kinds(load, places):
    """The load whose rows have the amounts of these kinds."""
    return (len(places), tuple([tuple([row[place] for place in places]) for row in load[1]]))


def without(load, some):
    """The load with these rows left out."""
    kinds, rows = load
    return (kinds, tuple([row for index, row in enumerate(rows) if index not in some]))


def replaced(load, index, found):
    """The load with the found rows in the place of the one with the index."""
    kinds, rows = load
    return (kinds, rows[:index] + found + rows[index + 1:])


def merged(load, index, other_index):
    """The load with the sum of two rows in the place of the first of them, and the other one left out."""
    rows = load[1]
    low, high = min(index, other_index), max(index, other_index)
    row = added(rows[low], rows[high])
    must_be_row(row, low)
    return replaced(without(load, (high,)), low, (row,))


def parted(load, index, row):
    """The load with two rows in the place of one: row, and what is left of it."""
    must_have_room(len(load[1]) + 1)
    left = added(load[1][index], multiplied(row, -1))
    must_be_row(left, index)
    return replaced(load, index, (row, left))
