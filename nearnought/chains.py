"""Orders that stay near a nought, with the weights that show it."""

from nearnought.beginnings import must_be_even, weighed
from nearnought.forms import is_order
from nearnought.ratios import fraction, is_fraction, on_one_bottom, settled


def is_weights(load, some, value):
    """Whether value is weights for the rows with these indexes."""
    if not isinstance(value, tuple) or len(value) != len(some):
        return False
    if not all([is_fraction(item, 0, 1) for item in value]):
        return False
    kinds, rows = load
    tops, bottom = on_one_bottom(value)
    if sum(tops) != (len(some) - kinds) * bottom:
        return False
    return weighed(kinds, [rows[index] for index in some], tops) == (0,) * kinds


def narrowing(load, some, weights):
    """The index and the other weights that narrowed tells."""
    kinds, rows = load
    left = len(some) - kinds
    tops, bottom = on_one_bottom(weights)
    # The sum of the weights has to be one less for the rest; the 1 behind each row keeps it.
    columns = [rows[index] + (1,) for index in some]
    tops, bottom = settled(columns, [top * (left - 1) for top in tops], bottom * left)
    # At most kinds + 1 weights are neither 0 nor 1 now. Were the others all 1, the sum would be too great.
    place = tops.index(0)
    others = [fraction(top, bottom) for top in tops]
    return some[place], tuple(others[:place] + others[place + 1:])


def narrowed(load, some, weights):
    """Any pair (index, others): one of some, and weights for the rest of some."""
    must_be_even(load)
    return narrowing(load, some, weights)


def chain(load):
    """Any chain of the load."""
    must_be_even(load)
    kinds, rows = load
    many = len(rows)
    some, behind = tuple(range(many)), ()
    if many <= kinds:
        return (some, ())
    weights = (fraction(many - kinds, many),) * many
    kept = [dict(zip(some, weights))]
    while len(some) > kinds + 1:
        index, weights = narrowing(load, some, weights)
        some = tuple([other for other in some if other != index])
        behind = (index,) + behind
        kept.append(dict(zip(some, weights)))
    order = some + behind
    # The order is known only now, and with it how each step's weights stand.
    steps = [tuple([held[k] for k in order[:len(held)]]) for held in kept]
    return (order, tuple(steps))


def chain_holds(load, value):
    """Whether value is a chain of the load."""
    must_be_even(load)
    if not isinstance(value, tuple) or len(value) != 2:
        return False
    order, steps = value
    if not is_order(load, order) or not isinstance(steps, tuple):
        return False
    kinds, rows = load
    many = len(rows)
    if len(steps) != max(many - kinds, 0):
        return False
    return all([is_weights(load, order[:many - k], step) for k, step in enumerate(steps)])


def steady_order(load):
    """Any order whose height is at most kinds times the size of the load."""
    return chain(load)[0]
