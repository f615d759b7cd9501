"""Desks: loads under edits, each of which can be taken back."""

from nearnought.beginnings import is_even, multiplied, must_be_even, sums
from nearnought.bounds import BATCH, MAX_EDITS
from nearnought.changes import must_be_row, must_have_room, replaced, without
from nearnought.errors import AmountError, BadBatch, BadLoad, BadRow, Busy, NoRow, NothingToUndo, NoVersion, Rejected
from nearnought.errors import TooManyEdits
from nearnought.forms import is_row, is_within, load_error
from nearnought.texts import load_text

EDITS = ("add", "drop", "put", "settle")
DEEDS = ("add", "drop", "put", "settle", "batch")
# How many items stand behind the word.
FURTHER = {"add": 1, "drop": 1, "put": 2, "settle": 0, "batch": 1}


def must_fit(load, row):
    """Raises BadRow for what is no row of as many kinds as the load has."""
    if not is_row(row, load[0]):
        raise BadRow(row)


def must_stand(load, index):
    """Raises NoRow for what is the index of no row."""
    if not is_within(index, 0, len(load[1]) - 1):
        raise NoRow(index)


def is_edit(value, words):
    """Whether value is a tuple of one of the words and as many further items as that wants."""
    if not isinstance(value, tuple) or not value or value[0] not in words:
        return False
    return len(value) == 1 + FURTHER[value[0]]


def must_be_edits(value, words):
    """Raises BadBatch for what is no tuple of edits by these words."""
    if not isinstance(value, tuple) or len(value) > BATCH:
        raise BadBatch()
    if not all([is_edit(item, words) for item in value]):
        raise BadBatch()


def with_added(load, row):
    """The load with the row behind the others."""
    must_fit(load, row)
    must_have_room(len(load[1]) + 1)
    return (load[0], load[1] + (row,))


def with_dropped(load, index):
    """The load with the row left out."""
    must_stand(load, index)
    return without(load, (index,))


def with_put(load, index, row):
    """The load with this row in the place of another."""
    must_stand(load, index)
    must_fit(load, row)
    return replaced(load, index, (row,))


def with_settled(load):
    """The load with one row more, with which all come to a nought."""
    kinds, rows = load
    must_have_room(len(rows) + 1)
    row = multiplied(sums(kinds, rows)[-1], -1)
    must_be_row(row, len(rows))
    return (kinds, rows + (row,))


def with_batch(load, edits):
    """The load with all these edits done."""
    must_be_edits(edits, EDITS)
    for index, edit in enumerate(edits):
        try:
            load = edited(load, edit)
        except AmountError:
            raise Rejected(index)
    return load


CHANGES = {
    "add": with_added, "drop": with_dropped, "put": with_put, "settle": with_settled, "batch": with_batch,
}


def edited(load, edit):
    """The load with this one edit done."""
    word, *items = edit
    change = CHANGES[word]
    return change(load, *items)


class Desk:
    """A load under edits."""

    def __init__(self, load):
        error = load_error(load)
        if error is not None:
            raise BadLoad(error)
        self._must_suit(load)
        self._kinds, self._rows = load
        # What the rows were ahead of each edit that stands.
        self._past = ()
        self._busy = False

    def _must_suit(self, load):
        """Raises an error if this class of desks does not take the load; this one takes each."""

    def _must_be_free(self):
        """Raises Busy while on_step runs."""
        if self._busy:
            raise Busy()

    @classmethod
    def _made(cls, load):
        """A new desk of the same class."""
        return cls(load)

    @property
    def load(self):
        """The load as it is now."""
        return (self._kinds, self._rows)

    @property
    def version(self):
        """How many edits stand."""
        return len(self._past)

    def __len__(self):
        return len(self._rows)

    def __getitem__(self, index):
        must_stand(self.load, index)
        return self._rows[index]

    def __contains__(self, value):
        return is_row(value, self._kinds) and value in self._rows

    def __iter__(self):
        return iter(self._rows)

    def __bool__(self):
        return bool(is_even(self.load))

    def __str__(self):
        return str(load_text(self.load))

    def __eq__(self, other):
        return isinstance(other, Desk) and self.load == other.load

    def _edit(self, edit):
        """Does the edit, and returns the new version."""
        self._must_be_free()
        if self.version == MAX_EDITS:
            raise TooManyEdits()
        load = edited(self.load, edit)
        self._must_suit(load)
        self._past, self._rows = self._past + (self._rows,), load[1]
        return self.version

    def add(self, row):
        """Puts the row behind the others."""
        return self._edit(("add", row))

    def drop(self, index):
        """Leaves the row out."""
        return self._edit(("drop", index))

    def put(self, index, row):
        """Puts the row in the place of the one with the index."""
        return self._edit(("put", index, row))

    def settle(self):
        """Puts the row behind the others with which all come to a nought."""
        return self._edit(("settle",))

    def batch(self, edits):
        """Does all the edits as one, or none of them."""
        return self._edit(("batch", edits))

    def undo(self):
        """Takes back the last edit that stands, and returns the version then."""
        self._must_be_free()
        if not self._past:
            raise NothingToUndo()
        self._past, self._rows = self._past[:-1], self._past[-1]
        return self.version

    def at(self, version):
        """The load when so many edits stood."""
        if not is_within(version, 0, self.version):
            raise NoVersion(version)
        every = self._past + (self._rows,)
        return (self._kinds, every[version])

    def copy(self):
        """A desk of the same class with the same load and edits that stand."""
        desk = self._made(self.load)
        desk._past = self._past
        return desk

    def _do(self, index, deed):
        """Does the deed at this place of an attempt."""
        try:
            self._edit(deed)
        except AmountError:
            raise Rejected(index)

    def _show(self, on_step):
        """Calls on_step with this desk, which can not be edited meanwhile."""
        self._busy = True
        try:
            on_step(self)
        finally:
            self._busy = False

    def attempt(self, deeds, on_step):
        """Does the deeds, each as an edit of its own, and shows each to on_step; all of them stand, or none."""
        self._must_be_free()
        must_be_edits(deeds, DEEDS)
        past, rows = self._past, self._rows
        try:
            for index, deed in enumerate(deeds):
                self._do(index, deed)
                if on_step is not None:
                    self._show(on_step)
            past, rows = self._past, self._rows
        finally:
            self._past, self._rows = past, rows
        return self.version


class EvenDesk(Desk):
    """A desk whose load is always even."""

    def _must_suit(self, load):
        """Raises Uneven for a load that is not even."""
        must_be_even(load)
