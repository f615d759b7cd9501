"""Parts of a load that come to a nought by themselves.

A set of indexes is kept as one number, its mask, as in bests.
"""

from nearnought.beginnings import added, must_be_even
from nearnought.bests import must_be_small, set_indexes, set_sizes
from nearnought.bounds import MAX_SMALL
from nearnought.errors import TooMany


def least_sets(load):
    """The masks of all least even parts; TooMany for a load with too many rows."""
    if len(load[1]) > MAX_SMALL:
        raise TooMany(MAX_SMALL)
    even = [mask for mask, size in enumerate(set_sizes(load)) if size == 0 and mask > 0]
    return [mask for mask in even if not any([inner != mask and inner & mask == inner for inner in even])]


def is_least(load):
    """Whether the tuple of all indexes is a least even part."""
    return (1 << len(load[1])) - 1 in least_sets(load)


def least_parts(load):
    """The ascending tuple of all least even parts."""
    return tuple(sorted([set_indexes(mask, len(load[1])) for mask in least_sets(load)]))


def most_apart(mask, least, known):
    """The most least even parts of which the set is made, None if it is made of none; known for all lesser masks."""
    best = None
    for part in least:
        # One of the parts has the first index of the set; with that one ahead, the parts stand ascending.
        if part & mask == part and part & mask & -mask:
            others = known[mask - part]
            if others is not None and (best is None or len(best) <= len(others)):
                best = (part,) + others
    return best


def most_parts(load):
    """Any even parting with the most parts."""
    must_be_small(load)
    many = len(load[1])
    # A parting with the most parts has least ones only: any other one could be parted once more.
    least = least_sets(load)
    known = [()]
    for mask in range(1, 1 << many):
        known.append(most_apart(mask, least, known))
    return tuple([set_indexes(part, many) for part in known[-1]])


def cut(load, order):
    """The parts that are taken off the heap while the rows are laid on it in this order."""
    must_be_even(load)
    kinds, rows = load
    heap, totals, parts = (), ((0,) * kinds,), []
    for index in order:
        heap, total = heap + (index,), added(totals[-1], rows[index])
        if total in totals:
            # No two totals of the heap are alike, so just the rows above this one come to a nought.
            kept = totals.index(total)
            parts.append(tuple(sorted(heap[kept:])))
            heap, totals = heap[:kept], totals[:kept + 1]
        else:
            totals = totals + (total,)
    return tuple(parts)
