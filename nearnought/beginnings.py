"""The sums that an order of a load, or signs of it, lead through."""

from nearnought.errors import Uneven


def row_size(row):
    """The greatest absolute value in the tuple, 0 if there is none."""
    return max([abs(item) for item in row], default=0)


def size(load):
    """The greatest size of the rows, 0 without rows."""
    return max([row_size(row) for row in load[1]], default=0)


def added(one, other):
    """The sum of two tuples of as many integers, kind by kind."""
    return tuple([item + more for item, more in zip(one, other)])


def multiplied(row, number):
    """The tuple with each item times the number."""
    return tuple([number * item for item in row])


def sums(kinds, rows):
    """The sums of the first k of the rows, k from 0 to their number."""
    total = (0,) * kinds
    found = [total]
    for row in rows:
        total = added(total, row)
        found.append(total)
    return tuple(found)


def weighed(kinds, rows, numbers):
    """What the rows come to, each times its number."""
    return sums(kinds, [multiplied(row, number) for row, number in zip(rows, numbers)])[-1]


def is_even(load):
    """Whether the rows come to a nought."""
    kinds, rows = load
    return sums(kinds, rows)[-1] == (0,) * kinds


def must_be_even(load):
    """Raises Uneven if the rows do not come to a nought."""
    if not is_even(load):
        raise Uneven()


def begins(load, order):
    """The beginnings of the order."""
    kinds, rows = load
    return sums(kinds, [rows[index] for index in order])


def height(load, order):
    """The greatest size of the beginnings of the order."""
    return max([row_size(total) for total in begins(load, order)])


def sign_begins(load, signs):
    """The sign beginnings: those of the rows as they stand, each times its sign."""
    kinds, rows = load
    return sums(kinds, [multiplied(row, sign) for row, sign in zip(rows, signs)])


def sign_height(load, signs):
    """The greatest size of the sign beginnings."""
    return max([row_size(total) for total in sign_begins(load, signs)])
