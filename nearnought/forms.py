"""What a row, a load, an order and signs are."""

from nearnought.bounds import MAX_AMOUNT, MAX_KINDS, MAX_ROWS


def is_integer(value):
    """Whether value is an integer."""
    # For Python, True and False are ints; here they stand for no number.
    return isinstance(value, int) and not isinstance(value, bool)


def is_within(value, low, high):
    """Whether value is an integer from low to high."""
    return is_integer(value) and low <= value <= high


def is_row(value, kinds):
    """Whether value is a row of so many kinds."""
    if not isinstance(value, tuple) or len(value) != kinds:
        return False
    return all([is_within(item, -MAX_AMOUNT, MAX_AMOUNT) for item in value])


def load_error(value):
    """None for a load, otherwise where it is wrong and what should be there."""
    if not isinstance(value, tuple) or len(value) != 2:
        return (None, "load")
    kinds, rows = value
    if not is_within(kinds, 1, MAX_KINDS):
        return (None, "kinds")
    if not isinstance(rows, tuple) or len(rows) > MAX_ROWS:
        return (None, "rows")
    for index, row in enumerate(rows):
        if not is_row(row, kinds):
            return (index, "row")
    return None


def is_order(load, value):
    """Whether value is an order of the load: the index of each row once."""
    many = len(load[1])
    if not isinstance(value, tuple) or len(value) != many:
        return False
    if not all([is_within(index, 0, many - 1) for index in value]):
        return False
    return len(set(value)) == many


def is_signs(load, value):
    """Whether value is signs of the load: 1 or -1 for each row."""
    if not isinstance(value, tuple) or len(value) != len(load[1]):
        return False
    return all([is_within(sign, -1, 1) and sign != 0 for sign in value])
