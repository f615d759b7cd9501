"""Signs of the rows that stay near a nought, with the fractions that show it."""

from nearnought.beginnings import must_be_even, sign_height, weighed
from nearnought.bounds import MAX_SMALL
from nearnought.errors import TooMany
from nearnought.forms import is_signs
from nearnought.ratios import fraction, is_fraction, on_one_bottom, settled


def sign_paper(load):
    """Any sign paper of the load."""
    kinds, rows = load
    tops, bottom, steps = [], 1, []
    for many in range(1, len(rows) + 1):
        # A top tells how far its fraction is on the way from -1 to 1; a new one begins in the midst, at 0. Those that
        # are at an end stay there, so each step keeps the signs of the steps ahead.
        tops, bottom = settled(rows[:many], [2 * top for top in tops] + [bottom], 2 * bottom)
        steps.append(tuple([fraction(2 * top - bottom, bottom) for top in tops]))
    # Fractions that came to no end show nothing of their rows, which may have any sign.
    return tuple([-1 if top == 0 else 1 for top in tops]), tuple(steps[kinds:])


def is_step(load, signs, many, value):
    """Whether value is fractions for the first so many rows as a sign paper with these signs has them."""
    if not isinstance(value, tuple) or len(value) != many:
        return False
    if not all([is_fraction(item, -1, 1) for item in value]):
        return False
    kinds, rows = load
    ended = [item == (sign, 1) for item, sign in zip(value, signs)]
    tops, _ = on_one_bottom(value)
    return sum(ended) >= many - kinds and weighed(kinds, rows, tops) == (0,) * kinds


def sign_paper_holds(load, value):
    """Whether value is a sign paper of the load."""
    if not isinstance(value, tuple) or len(value) != 2:
        return False
    signs, steps = value
    if not is_signs(load, signs) or not isinstance(steps, tuple):
        return False
    kinds, rows = load
    if len(steps) != max(len(rows) - kinds, 0):
        return False
    return all([is_step(load, signs, many, step) for many, step in enumerate(steps, start=kinds + 1)])


def steady_signs(load):
    """Any signs whose sign height is at most twice kinds times the size of the load."""
    return sign_paper(load)[0]


def choices(items, many):
    """All tuples of so many of the items, each as often as one likes; ascending if the items are."""
    found = [()]
    for _ in range(many):
        found = [chosen + (item,) for chosen in found for item in items]
    return found


def best_signs(load):
    """The first of the signs with the least sign height of all."""
    many = len(load[1])
    if many > MAX_SMALL:
        raise TooMany(MAX_SMALL)
    return min([(sign_height(load, signs), signs) for signs in choices((-1, 1), many)])[1]


def along(load, order):
    """The load with its rows in this order."""
    kinds, rows = load
    return (kinds, tuple([rows[index] for index in order]))


def halved(load, order, signs):
    """The order that has first the indexes whose sign is 1, then, turned about, those whose sign is -1."""
    must_be_even(load)
    onward = [index for index, sign in zip(order, signs) if sign == 1]
    back = [index for index, sign in zip(order, signs) if sign == -1]
    return tuple(onward + back[::-1])
