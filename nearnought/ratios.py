"""Fractions, and how to move several of them to the ends of their range without changing what they weigh."""

from math import gcd, lcm

from nearnought.forms import is_integer


def is_fraction(value, low, high):
    """Whether value is a fraction from low to high."""
    if not isinstance(value, tuple) or len(value) != 2:
        return False
    top, bottom = value
    if not is_integer(top) or not is_integer(bottom) or bottom < 1:
        return False
    return low * bottom <= top <= high * bottom and gcd(top, bottom) == 1


def reduced(numbers):
    """The integers, not all 0, without a common divisor but 1."""
    divisor = 0
    for number in numbers:
        divisor = gcd(divisor, number)
    return [number // divisor for number in numbers]


def fraction(top, bottom):
    """The fraction that is top by bottom, bottom being from 1 on."""
    return tuple(reduced([top, bottom]))


def on_one_bottom(fractions):
    """The tops of the fractions on one and the same bottom, and this bottom."""
    whole = 1
    for _, bottom in fractions:
        whole = lcm(whole, bottom)
    return [top * (whole // bottom) for top, bottom in fractions], whole


def cleared(line, place, other):
    """The line with as much of the other one taken off that a 0 stands at the place."""
    mixed = [other[place] * item - line[place] * less for item, less in zip(line, other)]
    return reduced(mixed)


def dependence(columns):
    """Integers, not all 0, so that the columns, each times its own, come to a nought; None if there are none."""
    many = len(columns)
    kept = []
    for index, column in enumerate(columns):
        # Behind the column stands how it is made of the columns as they were.
        line = list(column) + [0] * index + [1] + [0] * (many - index - 1)
        for place, other in kept:
            line = cleared(line, place, other)
        filled = [place for place in range(len(column)) if line[place] != 0]
        if not filled:
            return line[len(column):]
        kept.append((filled[0], line))
    return None


def first_stop(tops, bottom, mix):
    """The least (room, speed) after which one of the tops, each moved as fast as mix tells, is at 0 or bottom."""
    room, speed = None, 1
    for top, step in zip(tops, mix):
        if step != 0:
            left = bottom - top if step > 0 else top
            if room is None or left * speed < room * abs(step):
                room, speed = left, abs(step)
    return room, speed


def settled(columns, tops, bottom):
    """Other tops and bottom, again from 0 to bottom, that weigh the same: the columns, each times its top by bottom,
    come to what they came to before. The columns whose top is not at 0 or bottom are independent then.
    """
    tops = list(tops)
    while True:
        free = [k for k in range(len(tops)) if 0 < tops[k] < bottom]
        mix = dependence([columns[k] for k in free])
        if mix is None:
            return tops, bottom
        room, speed = first_stop([tops[k] for k in free], bottom, mix)
        tops = [top * speed for top in tops]
        for k, step in zip(free, mix):
            tops[k] = tops[k] + room * step
        bottom, *tops = reduced([bottom * speed] + tops)
