"""What several tests need: loads that are always drawn alike, and looks at what is returned."""

import random
import time

E = (2, ((3, 0), (-1, 2), (-2, -2)))
F = (1, ((2,), (2,), (2,), (-3,), (-3,)))
MOST = 10 ** 6
SECONDS = 5
UNEVEN = [
    (1, ((1,),)), (4, ((0, 0, 0, 1),)), (2, ((1, -1), (-1, 0))), (1, ((MOST,),) * 24), (2, ((0, 1),) * 9),
    (3, ((1, 2, 3), (-1, -2, -3), (0, 0, -1))), (1, ((1,), (-1,)) * 11 + ((2,), (-1,))),
]


def load(rng, kinds, many, most):
    """A load with so many rows, of amounts up to most."""
    rows = [tuple(rng.randint(-most, most) for _ in range(kinds)) for _ in range(many)]
    return (kinds, tuple(rows))


def even_load(rng, kinds, many, most):
    """An even load with so many rows, of amounts up to most."""
    columns = []
    for _ in range(kinds):
        column = [rng.randint(-most, most) for _ in range(many)]
        excess = sum(column)
        for k in rng.sample(range(many), many):
            amount = min(max(column[k] - excess, -most), most)
            excess -= column[k] - amount
            column[k] = amount
        columns.append(column)
    return (kinds, tuple(tuple(column[k] for column in columns) for k in range(many)))


def loads(seed):
    """Loads of all kinds and numbers of rows, even or not."""
    rng = random.Random(seed)
    found = [E, F, (1, ((MOST,),) * 24), (4, ((-MOST,) * 4,) * 24), (2, ((0, 0),) * 24)]
    for kinds in range(1, 5):
        for many in range(25):
            for most in (1, 9, MOST):
                found.append(load(rng, kinds, many, most))
    return found + even_loads(seed)


def even_loads(seed, most_rows=24):
    """Even loads of all kinds and numbers of rows, those with noughts and many alike rows among them."""
    rng = random.Random(seed)
    found = [E, F]
    for kinds in range(1, 5):
        for many in range(most_rows + 1):
            for most in (1, 12, MOST):
                found.append(even_load(rng, kinds, many, most))
            found.append((kinds, ((0,) * kinds,) * many))
        for many in range(2, most_rows + 1):
            alike = tuple(rng.randint(-9, 9) for _ in range(kinds))
            off = tuple(-(many - 1) * item for item in alike)
            found.append((kinds, (alike,) * (many - 1) + (off,)))
            full = (MOST, -MOST, MOST, MOST)[:kinds]
            less = tuple(-item for item in full)
            half = many // 2
            nought = ((0,) * kinds,) * (many - 2 * half)
            found.append((kinds, (full,) * half + nought + (less,) * half))
    return found


def orders(rng, many, drawn=2):
    """Orders of so many rows: as they stand, turned about, and drawn."""
    found = [tuple(range(many)), tuple(reversed(range(many)))]
    for _ in range(drawn):
        found.append(tuple(rng.sample(range(many), many)))
    return found


def high_order(load):
    """An order of the load that has the rows with a great first amount ahead."""
    return tuple(sorted(range(len(load[1])), key=lambda index: -load[1][index][0]))


def changed(items, place, item):
    """The tuple with another item at the place."""
    return items[:place] + (item,) + items[place + 1:]


def shown(load):
    """A load as the few signs that a subtest is to show."""
    return f"{len(load[1])} rows: {load!r:.120}"


def is_plain(value):
    """Whether value is an integer of at most 400 digits, or a tuple of such, however deep."""
    if isinstance(value, tuple):
        return all(is_plain(item) for item in value)
    return type(value) is int and abs(value) < 10 ** 400


def values():
    """Values of each kind that may stand where any value may, but no integer and no tuple of integers."""
    deep = ()
    for _ in range(10):
        deep = ([deep],)
    return [
        None, True, False, "", "0", "(0, 1)", "a\nb", [], [0], [[]], [(), ()], {}, {0: 1}, {(): ()},
        {"order": (0, 1)}, (None,), (None, None), ("0", "1"), ([], []), ({}, {}), (True, False),
        ((True,), ()), ((None,), (None,)), deep, ("",) * 3000, 1.0, object(),
    ]


def caught(function, *args, **named):
    """The error that the call raises, None if it raises none."""
    try:
        function(*args, **named)
    except Exception as error:
        return error
    return None


def seconds(function, *args):
    """How long the call takes."""
    start = time.perf_counter()
    function(*args)
    return time.perf_counter() - start
