"""A desk of the tests' own, by the document's words, and how it and a desk of the package are led side by side."""

import drawn
from drawn import MOST
from nearnought.desks import Desk, EvenDesk

FIELDS = {
    "BadLoad": "error", "BadRow": "given", "NoRow": "given", "NoVersion": "given", "Rejected": "index",
    "TooGreat": "index", "TooMany": "limit",
}
FURTHER = {"add": 1, "drop": 1, "put": 2, "settle": 0}


class Refused(Exception):
    """What the model raises: the name of the error's class, and what its field holds."""

    def __init__(self, name, given=None):
        self.told = (name, given)


def is_own_integer(value):
    return type(value) is int


def is_own_row(kinds, value):
    if type(value) is not tuple or len(value) != kinds:
        return False
    return all(is_own_integer(item) and -MOST <= item <= MOST for item in value)


def own_sum(load):
    return tuple(sum(row[kind] for row in load[1]) for kind in range(load[0]))


def own_even(load):
    return own_sum(load) == (0,) * load[0]


def is_own_batch(value, batches):
    """Whether value has the form of a batch; batches tells whether ("batch", edits) are let, too."""
    if type(value) is not tuple or len(value) > 12:
        return False
    further = dict(FURTHER, batch=1) if batches else FURTHER
    for item in value:
        if type(item) is not tuple or item == () or type(item[0]) is not str or item[0] not in further:
            return False
        if len(item) - 1 != further[item[0]]:
            return False
    return True


def own_edited(load, edit):
    """The load behind the edit."""
    kinds, rows = load
    word = edit[0]
    if word == "batch":
        if not is_own_batch(edit[1], False):
            raise Refused("BadBatch")
        for place, item in enumerate(edit[1]):
            try:
                load = own_edited(load, item)
            except Refused:
                raise Refused("Rejected", place)
        return load
    if word in ("drop", "put") and not (is_own_integer(edit[1]) and 0 <= edit[1] < len(rows)):
        raise Refused("NoRow", edit[1])
    if word in ("add", "put") and not is_own_row(kinds, edit[-1]):
        raise Refused("BadRow", edit[-1])
    if word in ("add", "settle") and len(rows) == 24:
        raise Refused("TooMany", 24)
    changed = list(rows)
    if word == "drop":
        del changed[edit[1]]
    elif word == "put":
        changed[edit[1]] = edit[2]
    elif word == "add":
        changed.append(edit[1])
    else:
        changed.append(tuple(-item for item in own_sum(load)))
        if not is_own_row(kinds, changed[-1]):
            raise Refused("TooGreat", len(rows))
    return (kinds, tuple(changed))


class Model:
    """What a desk shows: its class and the loads that were, the last of them the one that is."""

    def __init__(self, cls, loads):
        self.cls = cls
        self.loads = list(loads)

    def edit(self, edit):
        if len(self.loads) > 30:
            raise Refused("TooManyEdits")
        load = own_edited(self.loads[-1], edit)
        if self.cls is EvenDesk and not own_even(load):
            raise Refused("Uneven")
        self.loads.append(load)
        return len(self.loads) - 1

    def undo(self):
        if len(self.loads) == 1:
            raise Refused("NothingToUndo")
        self.loads.pop()
        return len(self.loads) - 1

    def attempt(self, deeds, shown):
        """Does the deeds, and appends to shown what on_step sees behind each."""
        if not is_own_batch(deeds, True):
            raise Refused("BadBatch")
        before = list(self.loads)
        for place, deed in enumerate(deeds):
            try:
                self.edit(deed)
            except Refused:
                self.loads = before
                raise Refused("Rejected", place)
            shown.append(list(self.loads))
        return len(self.loads) - 1

    def copy(self):
        return Model(self.cls, self.loads)


def told_by_desk(function, *args):
    """("ok", what is returned), or the name of the error's class and what its field holds."""
    try:
        return ("ok", function(*args))
    except Exception as error:
        name = type(error).__name__
        return (name, getattr(error, FIELDS[name]) if name in FIELDS else None)


def told_by_model(function, *args):
    try:
        return ("ok", function(*args))
    except Refused as refused:
        return refused.told


def do(desk, edit):
    """Has the desk do the edit."""
    return getattr(desk, edit[0])(*edit[1:])


def looks(desk):
    """All that a desk shows of itself."""
    loads = [desk.at(version) for version in range(desk.version + 1)]
    return (type(desk), loads, desk.load, desk.version, list(desk), len(desk), bool(desk), str(desk))


def model_looks(model):
    load = model.loads[-1]
    lines = [str(load[0])] + [" ".join(str(item) for item in row) for row in load[1]]
    version = len(model.loads) - 1
    return (
        model.cls, model.loads, load, version, list(load[1]), len(load[1]), own_even(load), "\n".join(lines)
    )


def drawn_row(rng, load):
    """A row for the load, or a value that is none."""
    kinds = load[0]
    wrong = [
        (1,) * (kinds + 1), (1,) * (kinds - 1), (MOST + 1,) + (0,) * (kinds - 1), (True,) + (0,) * (kinds - 1),
        [1] * kinds, ("1",) * kinds,
    ]
    if rng.random() < 0.15:
        return rng.choice(wrong + drawn.values())
    if load[1] and rng.random() < 0.3:
        return tuple(-item for item in rng.choice(load[1]))
    most = rng.choice((0, 1, 9, 9, 9, MOST))
    return tuple(rng.randint(-most, most) for _ in range(kinds))


def drawn_index(rng, load):
    """The index of a row, or a value that is none."""
    many = len(load[1])
    if rng.random() < 0.15:
        return rng.choice([many, many + 1, -1, -many, 10 ** 399] + drawn.values())
    return rng.randrange(max(many, 1))


def drawn_edit(rng, load, batches):
    """An edit of the load, right or wrong, but of the right form unless it is a batch's items."""
    word = rng.choice(("add", "add", "add", "drop", "put", "settle") + ("batch",) * batches)
    if word == "add":
        return (word, drawn_row(rng, load))
    if word == "drop":
        return (word, drawn_index(rng, load))
    if word == "put":
        return (word, drawn_index(rng, load), drawn_row(rng, load))
    if word == "settle":
        return (word,)
    return (word, drawn_batch(rng, load, False))


def drawn_batch(rng, load, batches):
    """Edits for a batch, or deeds, mostly right."""
    if rng.random() < 0.1:
        return rng.choice(drawn.values() + wrong_batches(load))
    edits, now = [], load
    for _ in range(rng.choice((0, 1, 1, 2, 3, 3, 5, 12, 13) if not batches else (0, 1, 2, 3, 4))):
        edit = drawn_edit(rng, now, batches)
        try:
            now = own_edited(now, edit)
        except Refused:
            if rng.random() < 0.7:
                continue
        edits.append(edit)
    return tuple(edits)


def wrong_batches(load):
    """Values that have not the form of a batch's edits."""
    row = (0,) * load[0]
    good = ("add", row)
    return [
        [good], (list(good),), (good, ["settle"]), ("settle",), good, ((),), (good, ()), (("ADD", row),), (("add",),),
        (("add", row, row),), (("drop",),), (("drop", 0, 0),), (("put", 0),), (("put", 0, row, row),),
        (("settle", row),), (("settle", None),), (("undo",),), (("at", 0),), ((None,),), ((0, row),),
        ((("add",), row),), (([], row),), ({"add": row},), (good, "settle"), (good,) * 13, ("add",), ((good,),),
        (good, None), ((True, row),), (("", row),), (("add ", row),), ((Desk(load), row),), ({},), (1,),
        (("batch",),), (("batch", (), ()),),
    ]
