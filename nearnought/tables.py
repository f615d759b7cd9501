"""Shares of the columns of a table rounded so that the sums of all its lines stay near."""

from nearnought.bounds import MAX_COLUMNS, MAX_LINES, MAX_SMALL
from nearnought.errors import TooMany
from nearnought.forms import is_row, is_within
from nearnought.ratios import fraction, is_fraction, on_one_bottom, settled
from nearnought.signs import choices

MAX_BOTTOM = 10 ** 6 - 1


def table_error(value):
    """None for a table, otherwise where it is wrong and what should be there."""
    if not isinstance(value, tuple) or not 1 <= len(value) <= MAX_LINES:
        return (None, "table")
    first = value[0]
    if not isinstance(first, tuple) or len(first) > MAX_COLUMNS:
        return (0, "line")
    for index, line in enumerate(value):
        # A line is a row with as many kinds as there are columns.
        if not is_row(line, len(first)):
            return (index, "line")
    return None


def shares_error(table, value):
    """None for shares of the table, otherwise where they are wrong and what should be there."""
    if not isinstance(value, tuple) or len(value) != len(table[0]):
        return (None, "shares")
    for index, item in enumerate(value):
        if not is_fraction(item, 0, 1) or item[1] > MAX_BOTTOM:
            return (index, "share")
    return None


def absolute(line, columns):
    """The sum of the absolute values of the line's items in these columns."""
    return sum([abs(line[column]) for column in columns])


def widest(table):
    """The greatest sum of the absolute values of a column, 0 without columns."""
    return max([sum([abs(item) for item in column]) for column in zip(*table)], default=0)


def misses(table, shares, rounding):
    """The errors on one and the same bottom: their tops, and this bottom."""
    tops, bottom = on_one_bottom(shares)
    moved = [item * bottom - top for item, top in zip(rounding, tops)]
    return [sum([item * part for item, part in zip(line, moved)]) for line in table], bottom


def errors(table, shares, rounding):
    """For each line the sum of its items, each times (rounding less share)."""
    tops, bottom = misses(table, shares, rounding)
    return tuple([fraction(top, bottom) for top in tops])


def between(tops, bottom):
    """The places of the tops that are neither 0 nor bottom."""
    return [place for place, top in enumerate(tops) if 0 < top < bottom]


def rounded(table, shares):
    """Any rounding that leaves 0 and 1, and all of whose errors are 0 or below the widest."""
    most = widest(table)
    tops, bottom = on_one_bottom(shares)
    free = between(tops, bottom)
    while free:
        # The error of a heavy line stays 0. There are fewer of them than free columns, so that some column is settled.
        # A line that is heavy no more comes to less than the widest, whatever becomes of its free columns.
        heavy = [line for line in table if absolute(line, free) > most]
        columns = [[line[place] for line in heavy] for place in range(len(tops))]
        tops, bottom = settled(columns, tops, bottom)
        free = between(tops, bottom)
    return tuple([top // bottom for top in tops])


def is_rounding(value, many):
    """Whether value is a tuple with 0 or 1 for each of so many columns."""
    if not isinstance(value, tuple) or len(value) != many:
        return False
    return all([is_within(item, 0, 1) for item in value])


def is_near(table, shares, value):
    """Whether value is a rounding as rounded returns one."""
    if not is_rounding(value, len(shares)):
        return False
    # Shares of 0 and 1 are those with a bottom of 1.
    if not all([bottom > 1 or top == item for item, (top, bottom) in zip(value, shares)]):
        return False
    tops, bottom = misses(table, shares, value)
    most = widest(table) * bottom
    return all([top == 0 or abs(top) < most for top in tops])


def greatest_miss(table, shares, rounding):
    """The greatest absolute value of an error, as a top on the bottom that all roundings have in common."""
    tops, _ = misses(table, shares, rounding)
    return max([abs(top) for top in tops])


def best_rounded(table, shares):
    """The first of all roundings with the least greatest absolute value of an error."""
    many = len(shares)
    if many > MAX_SMALL:
        raise TooMany(MAX_SMALL)
    return min([(greatest_miss(table, shares, rounding), rounding) for rounding in choices((0, 1), many)])[1]
