"""The best orders of short loads, by a look at all their sets of rows.

A set of indexes is kept as one number, its mask: the sum of 1 << index over them.
"""

from nearnought.beginnings import added, must_be_even, row_size
from nearnought.bounds import MAX_SMALL
from nearnought.errors import NoNumber, TooMany
from nearnought.forms import is_within


def must_be_small(load):
    """Raises Uneven for a load that is not even, then TooMany for one with too many rows."""
    must_be_even(load)
    if len(load[1]) > MAX_SMALL:
        raise TooMany(MAX_SMALL)


def set_sizes(load):
    """For each set of rows, by its mask, the size of what they come to."""
    kinds, rows = load
    totals = [(0,) * kinds]
    for row in rows:
        totals = totals + [added(total, row) for total in totals]
    return [row_size(total) for total in totals]


def wider_sets(mask, many):
    """The pairs of an index that is not in the set and the set with it, ascending."""
    return [(index, mask | (1 << index)) for index in range(many) if not mask & (1 << index)]


def ways(load, height):
    """For each set, how many orders of the other rows lead from it on within the height; 0 if it is not within."""
    sizes, many = set_sizes(load), len(load[1])
    found = [0] * len(sizes)
    found[-1] = 1
    for mask in reversed(range(len(sizes) - 1)):
        if sizes[mask] <= height:
            found[mask] = sum([found[wider] for _, wider in wider_sets(mask, many)])
    return found


def numbered(found, many, number):
    """The order with this number among those that found counts."""
    mask, order = 0, ()
    while len(order) < many:
        for index, wider in wider_sets(mask, many):
            if number < found[wider]:
                mask, order = wider, order + (index,)
                break
            # All orders that go on with this index come ahead of the one looked for.
            number = number - found[wider]
    return order


def lowest(load):
    """The least height of all orders of a small load."""
    sizes, many = set_sizes(load), len(load[1])
    heights = list(sizes)
    for mask in reversed(range(len(sizes) - 1)):
        onward = min([heights[wider] for _, wider in wider_sets(mask, many)])
        heights[mask] = max(sizes[mask], onward)
    return heights[0]


def least_height(load):
    """The least height of all orders."""
    must_be_small(load)
    return lowest(load)


def best_order(load):
    """The first order that has the least height."""
    must_be_small(load)
    return numbered(ways(load, lowest(load)), len(load[1]), 0)


def count_within(load, height):
    """How many orders have at most this height."""
    must_be_small(load)
    return ways(load, height)[0]


def order_at(load, height, number):
    """The order with this number among those of at most this height, ascending."""
    must_be_small(load)
    found = ways(load, height)
    if not is_within(number, 0, found[0] - 1):
        raise NoNumber(number)
    return numbered(found, len(load[1]), number)


def number_of(load, height, order):
    """The number of the order among those of at most this height, None if it is not one of them."""
    must_be_small(load)
    found, many = ways(load, height), len(load[1])
    mask, number = 0, 0
    for index in order:
        ahead = [found[wider] for other, wider in wider_sets(mask, many) if other < index]
        number = number + sum(ahead)
        mask = mask | (1 << index)
        if found[mask] == 0:
            return None
    return number


def set_indexes(mask, many):
    """The ascending tuple of the indexes in the set."""
    return tuple([index for index in range(many) if mask & (1 << index)])


def bar(load, height):
    """Any bar for the height, None if some order has at most this height."""
    must_be_small(load)
    sizes, many = set_sizes(load), len(load[1])
    reached = [True] + [False] * (len(sizes) - 1)
    for mask in range(len(sizes)):
        for _, wider in wider_sets(mask, many):
            if reached[mask] and sizes[wider] <= height:
                reached[wider] = True
    if reached[-1]:
        return None
    return tuple(sorted([set_indexes(mask, many) for mask in range(len(sizes)) if reached[mask]]))


def is_ascending(items):
    """Whether each item of the tuple is greater than the one ahead of it."""
    return all([item < behind for item, behind in zip(items, items[1:])])


def is_some(value, many):
    """Whether value is an ascending tuple of integers from 0 on below many."""
    if not isinstance(value, tuple):
        return False
    return all([is_within(item, 0, many - 1) for item in value]) and is_ascending(value)


def bar_holds(load, height, value):
    """Whether value is a bar for the height."""
    must_be_small(load)
    sizes, many = set_sizes(load), len(load[1])
    if not isinstance(value, tuple) or not all([is_some(some, many) for some in value]):
        return False
    held = {sum([1 << index for index in some]): True for some in value}
    if not is_ascending(value) or 0 not in held or len(sizes) - 1 in held:
        return False
    for mask in held:
        for _, wider in wider_sets(mask, many):
            if wider not in held and sizes[wider] <= height:
                return False
    return True
