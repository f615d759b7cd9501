"""N1, N2 and N4: desks, their edits and what can be taken back, and desks that stay even; A2 (h), second half."""

import copy
import random
import unittest

import drawn
import models
from drawn import E, F, MOST
from models import Model, do, looks, model_looks, told_by_desk, told_by_model
from nearnought import desks
from nearnought.desks import Desk, EvenDesk
from nearnought.errors import BadBatch, BadLoad, BadRow, NoRow, NothingToUndo, NoVersion, Rejected, TooGreat
from nearnought.errors import TooMany, TooManyEdits, Uneven
from nearnought.forms import load_error

OWN = (
    "__init__", "load", "version", "add", "drop", "put", "settle", "batch", "undo", "at", "copy", "attempt",
    "__getitem__", "__len__", "__contains__", "__iter__", "__bool__", "__str__", "__eq__",
)
FULL = (1, ((1,),) * 23 + ((-23,),))
EVEN_FULL = (2, ((1, 2), (-1, -2)) * 12)
NO_LOADS = [
    0, 1, 10 ** 399, (1,), (1, (), ()), [1, ()], (0, ()), (5, ()), (True, ()), ("1", ()), (1, [(1,)]),
    (1, ((1,),) * 25), (1, ([1],)), (1, ((1, 2),)), (2, ((1, 2), (1,))), (1, ((MOST + 1,),)), (1, ((1,), (True,))),
    (None, None), ((1,), ()),
]
NO_INDEXES = [-1, -2, 10 ** 399, -(10 ** 399), (0,), [0], slice(0, 1)]


class Case(unittest.TestCase):
    def raises(self, kind, field, given, function, *args, **named):
        """Looks that the call raises an error of just this kind with this field."""
        error = drawn.caught(function, *args, **named)
        self.assertIs(type(error), kind)
        if field is not None:
            if type(given) in (int, bool, str, type(None)):
                self.assertEqual((type(getattr(error, field)), getattr(error, field)), (type(given), given))
            else:
                self.assertIs(getattr(error, field), given)

    def refuses(self, desk, kind, field, given, function, *args, **named):
        """Looks that the call raises this, and that the desk is as it was."""
        before = looks(desk)
        self.raises(kind, field, given, function, *args, **named)
        self.assertEqual(looks(desk), before)


class Shown(Case):
    def test_they_are_defined_in_their_module_with_methods_of_their_own(self):
        for cls in (Desk, EvenDesk):
            self.assertEqual(cls.__module__, "nearnought.desks")
            self.assertIs(getattr(desks, cls.__name__), cls)
        for name in OWN:
            self.assertIn(name, vars(Desk))
        self.assertTrue(issubclass(EvenDesk, Desk))

    def test_loads(self):
        for load in drawn.loads(71)[::3]:
            with self.subTest(drawn.shown(load)):
                for desk in (Desk(load), Desk(load=load)):
                    self.assertEqual(looks(desk), model_looks(Model(Desk, [load])))
                    self.assertEqual([desk.load, desk.version], [load, 0])
                    self.assertIs(type(desk.load), tuple)
                    self.assertIs(type(len(desk)), int)
                    self.assertIs(bool(desk), models.own_even(load))
                    self.assertEqual([desk[index] for index in range(len(desk))], list(load[1]))
                    self.assertEqual([row for row in desk], list(load[1]))
                    self.assertEqual(tuple(desk), load[1])

    def test_even_desks(self):
        for load in drawn.even_loads(72)[::3]:
            with self.subTest(drawn.shown(load)):
                for desk in (EvenDesk(load), EvenDesk(load=load)):
                    self.assertEqual(looks(desk), model_looks(Model(EvenDesk, [load])))
                    self.assertIs(type(desk), EvenDesk)
                    self.assertIs(bool(desk), True)
        for load in drawn.UNEVEN:
            self.raises(Uneven, None, None, EvenDesk, load)
            self.raises(Uneven, None, None, EvenDesk, load=load)

    def test_bad_loads(self):
        for cls in (Desk, EvenDesk):
            for value in NO_LOADS + drawn.values() + [Desk(E), EvenDesk(E)]:
                with self.subTest(f"{cls.__name__} {value!r:.150}"):
                    for error in (drawn.caught(cls, value), drawn.caught(cls, load=value)):
                        self.assertIs(type(error), BadLoad)
                        self.assertIsNotNone(error.error)
                        self.assertEqual(error.error, load_error(value))

    def test_load_and_version_can_only_be_read(self):
        for desk in (Desk(E), EvenDesk(E)):
            for name, value in [("load", F), ("version", 3), ("load", E), ("version", 0)]:
                with self.assertRaises(AttributeError):
                    setattr(desk, name, value)
                with self.assertRaises(AttributeError):
                    delattr(desk, name)
            self.assertEqual([desk.load, desk.version], [E, 0])

    def test_no_row(self):
        for load in (E, F, (1, ()), FULL):
            for desk in (Desk(load), EvenDesk(load)):
                for index in NO_INDEXES + drawn.values() + [len(load[1]), len(load[1]) + 1, desk]:
                    with self.subTest(f"{drawn.shown(load)} {index!r:.100}"):
                        self.refuses(desk, NoRow, "given", index, lambda: desk[index])

    def test_in(self):
        for load in (E, F, (1, ((1,), (0,), (1,), (-2,))), (3, ()), (2, ((1, 1), (0, 0)))):
            desk = Desk(load)
            for row in load[1]:
                self.assertIs(row in desk, True)
                self.assertIs(tuple(list(row)) in desk, True)
                self.assertIs(list(row) in desk, False)
                self.assertIs(tuple(item + 1 for item in row) in desk, tuple(item + 1 for item in row) in load[1])
                self.assertIs(tuple(float(item) for item in row) in desk, False)
                self.assertIs(row + (0,) in desk, False)
                self.assertIs(row[1:] in desk, False)
                self.assertIs((row,) in desk, False)
            for value in drawn.values() + NO_INDEXES + NO_LOADS + [desk, load, load[1]]:
                if value not in ((1,), (0,)):
                    self.assertIs(value in desk, False)
        desk = Desk((1, ((1,), (0,), (-1,))))
        self.assertEqual([(1,) in desk, (True,) in desk, (0,) in desk, (False,) in desk], [True, False, True, False])
        self.assertEqual([(2,) in desk, (-1,) in desk, (MOST + 1,) in desk, 1 in desk], [False, True, False, False])

    def test_equal(self):
        pairs = [(cls, load) for cls in (Desk, EvenDesk) for load in (E, F, (1, ()), (2, ()), (1, ((0,),)))]
        for one_cls, one in pairs:
            for other_cls, other in pairs:
                with self.subTest(f"{one_cls.__name__} {one} {other_cls.__name__} {other}"):
                    self.assertIs(one_cls(one) == other_cls(other), one == other)
                    self.assertIs(one_cls(one) != other_cls(other), one != other)
        desk = Desk((1, ((2,), (-2,))))
        for value in drawn.values() + NO_LOADS + [desk.load, list(desk), str(desk), (desk,), Desk]:
            self.assertIs(desk == value, False)
            self.assertIs(value == desk, False)
            self.assertIs(desk != value, True)
            self.assertIs(value != desk, True)
        self.assertIs(desk == desk, True)

    def test_equal_whatever_edits_stand(self):
        one, other = Desk(F), Desk(E)
        for word in ("drop", "drop", "drop", "drop"):
            one.drop(0)
        one.put(0, (0,))
        self.assertIs(one == Desk((1, ((0,),))), True)
        self.assertIs(one == other, False)
        one.undo()
        self.assertIs(one == Desk((1, ((-3,),))), True)


class Edits(Case):
    def test_add(self):
        desk = Desk((2, ()))
        self.assertEqual([desk.add((1, 2)), desk.add(row=(MOST, -MOST)), desk.add((1, 2))], [1, 2, 3])
        self.assertEqual(desk.load, (2, ((1, 2), (MOST, -MOST), (1, 2))))
        for row in drawn.values() + NO_INDEXES + [
            1, (1,), (1, 2, 3), (1, MOST + 1), (-MOST - 1, 1), (True, 2), (1, False), [1, 2], (1, "2"), (1, 2.0), desk,
        ]:
            self.refuses(desk, BadRow, "given", row, desk.add, row)
            self.refuses(desk, BadRow, "given", row, desk.add, row=row)

    def test_add_on_a_full_desk(self):
        for desk, row in [(Desk(FULL), (1,)), (EvenDesk(FULL), (0,)), (EvenDesk(FULL), (1,))]:
            self.refuses(desk, TooMany, "limit", 24, desk.add, row)
            for wrong in [(True,), (1, 2), None, [1]]:
                self.refuses(desk, BadRow, "given", wrong, desk.add, wrong)
        desk = Desk((1, ((1,),) * 23))
        self.assertEqual(desk.add((5,)), 1)
        self.refuses(desk, TooMany, "limit", 24, desk.add, (5,))

    def test_drop(self):
        desk = Desk(F)
        self.assertEqual([desk.drop(0), desk.drop(index=3), desk.drop(1)], [1, 2, 3])
        self.assertEqual(desk.load, (1, ((2,), (-3,))))
        for index in NO_INDEXES + drawn.values() + [2, 3, desk]:
            self.refuses(desk, NoRow, "given", index, desk.drop, index)
            self.refuses(desk, NoRow, "given", index, desk.drop, index=index)
        self.assertEqual([desk.drop(1), desk.drop(0)], [4, 5])
        self.refuses(desk, NoRow, "given", 0, desk.drop, 0)

    def test_put(self):
        desk = Desk(E)
        self.assertEqual([desk.put(0, (1, 1)), desk.put(index=2, row=(0, 0)), desk.put(2, (7, 7))], [1, 2, 3])
        self.assertEqual(desk.load, (2, ((1, 1), (-1, 2), (7, 7))))
        for index in NO_INDEXES + drawn.values() + [3]:
            for row in [(1, 1), (True, 1), None]:
                self.refuses(desk, NoRow, "given", index, desk.put, index, row)
                self.refuses(desk, NoRow, "given", index, desk.put, row=row, index=index)
        for row in drawn.values() + [1, (1,), (1, 2, 3), (1, MOST + 1), (True, 2), [1, 2], (1, "2")]:
            self.refuses(desk, BadRow, "given", row, desk.put, 1, row)
        full = Desk(FULL)
        self.assertEqual(full.put(23, (9,)), 1)

    def test_settle(self):
        for load, row in [
            ((1, ()), (0,)), ((2, ((1, -2),)), (-1, 2)), (E, (0, 0)), ((1, ((MOST,),)), (-MOST,)),
            ((1, ((7,),) * 23), (-161,)), ((3, ((1, 2, 3), (1, 0, -3))), (-2, -2, 0)),
        ]:
            desk = Desk(load)
            self.assertEqual(desk.settle(), 1)
            self.assertEqual(desk.load, (load[0], load[1] + (row,)))
            self.assertIs(bool(desk), True)
        for load in [(1, ((MOST,), (1,))), (1, ((-MOST,), (-1,))), (2, ((0, MOST), (0, 5), (9, 9)))]:
            desk = Desk(load)
            self.refuses(desk, TooGreat, "index", len(load[1]), desk.settle)
        for load in (FULL, (1, ((MOST,),) * 24), EVEN_FULL):
            desk = Desk(load)
            self.refuses(desk, TooMany, "limit", 24, desk.settle)

    def test_batch(self):
        desk = Desk((1, ((1,), (2,), (3,))))
        edits = (("drop", 0), ("drop", 0), ("put", 0, (9,)), ("add", (5,)), ("settle",))
        self.assertEqual(desk.batch(edits), 1)
        self.assertEqual(desk.load, (1, ((9,), (5,), (-14,))))
        self.assertEqual(desk.batch(edits=()), 2)
        self.assertEqual(desk.load, (1, ((9,), (5,), (-14,))))
        self.assertEqual(desk.batch((("add", (1,)),) * 12), 3)
        self.assertEqual(len(desk), 15)
        self.assertEqual([desk.undo(), len(desk), desk.undo(), desk.undo()], [2, 3, 1, 0])
        self.assertEqual(desk.load, (1, ((1,), (2,), (3,))))

    def test_bad_batches(self):
        for load in (E, F, (1, ()), FULL):
            for desk in (Desk(load), EvenDesk(load)):
                for value in models.wrong_batches(load) + [
                    value for value in drawn.values() if value != ()
                ] + [(("batch", ()),), (("add", (0,) * load[0]), ("batch", (("settle",),)))]:
                    with self.subTest(f"{drawn.shown(load)} {value!r:.150}"):
                        before = repr(value)
                        self.refuses(desk, BadBatch, None, None, desk.batch, value)
                        self.refuses(desk, BadBatch, None, None, desk.batch, edits=value)
                        self.assertEqual(repr(value), before)

    def test_the_form_of_all_items_ahead_of_the_first_one(self):
        desk = Desk((1, ((1,),)))
        for last in [(), ("add",), ("undo",), ["settle"], None, ("drop", 0, 0), ("batch", ())]:
            for ahead in [("drop", 7), ("add", None), ("settle",)]:
                self.refuses(desk, BadBatch, None, None, desk.batch, (ahead, last))
                self.refuses(desk, BadBatch, None, None, desk.batch, (ahead,) * 11 + (last,))
        self.refuses(desk, BadBatch, None, None, desk.batch, (("drop", 7),) * 13)

    def test_rejected(self):
        desk = Desk((1, ((1,), (2,))))
        good = ("put", 0, (7,))
        for wrong in [
            ("drop", 2), ("drop", None), ("drop", True), ("add", (1, 2)), ("add", None), ("put", 2, (1,)),
            ("put", 0, 1), ("put", False, (1,)), ("drop", []), ("add", {}), ("put", {}, []),
        ]:
            for ahead in range(12):
                edits = (good,) * ahead + (wrong,) * (12 - ahead)
                self.refuses(desk, Rejected, "index", ahead, desk.batch, edits)
        self.refuses(desk, Rejected, "index", 1, desk.batch, (("add", (MOST,)), ("settle",)))
        self.refuses(desk, Rejected, "index", 2, desk.batch, (("drop", 1), ("drop", 0), ("drop", 0)))
        full = Desk(FULL)
        self.refuses(full, Rejected, "index", 0, full.batch, (("settle",),))
        self.refuses(full, Rejected, "index", 0, full.batch, (("add", (1,)), ("drop", 0)))
        self.assertEqual(full.batch((("drop", 0), ("add", (1,)))), 1)
        near = Desk((1, ((1,),) * 22))
        self.refuses(near, Rejected, "index", 2, near.batch, (("add", (1,)),) * 12)

    def test_undo_and_at(self):
        desk = Desk(F)
        loads = [F]
        batch = ("batch", (("drop", 0), ("drop", 0)))
        for edit in [("drop", 0), ("add", (9,)), batch, ("settle",), ("batch", ())]:
            self.assertEqual(do(desk, edit), len(loads))
            loads.append(desk.load)
            self.assertEqual([desk.at(version) for version in range(len(loads))], loads)
            self.assertEqual(desk.at(version=desk.version), desk.load)
        while len(loads) > 1:
            for version in [len(loads), len(loads) + 1] + NO_INDEXES + drawn.values():
                self.refuses(desk, NoVersion, "given", version, desk.at, version)
                self.refuses(desk, NoVersion, "given", version, desk.at, version=version)
            loads.pop()
            self.assertEqual(desk.undo(), len(loads) - 1)
            self.assertEqual(looks(desk)[1:4], (loads, loads[-1], len(loads) - 1))
        self.refuses(desk, NothingToUndo, None, None, desk.undo)
        self.assertEqual(looks(desk), looks(Desk(F)))

    def test_at_tells_of_the_edits_that_stand_now(self):
        desk = Desk((1, ()))
        desk.add((1,)), desk.add((2,)), desk.undo(), desk.add((3,))
        self.assertEqual([desk.at(0), desk.at(1), desk.at(2)], [(1, ()), (1, ((1,),)), (1, ((1,), (3,)))])
        desk.undo(), desk.undo()
        self.refuses(desk, NoVersion, "given", 1, desk.at, 1)

    def test_too_many_edits(self):
        for cls, edit in [(Desk, ("add", (1, 1))), (EvenDesk, ("add", (0, 0)))]:
            desk = cls(E)
            for version in range(1, 21):
                self.assertEqual(do(desk, edit), version)
                self.assertEqual(drawn.caught(desk.drop, 99).given, 99)
            for version in range(21, 29):
                self.assertEqual(desk.batch((("drop", 3), edit)), version)
            self.assertEqual(desk.attempt((edit, ("batch", ())), None), 30)
            self.at_its_bound(desk, edit)
            self.at_its_bound(desk.copy(), edit)
            self.assertEqual(desk.undo(), 29)
            self.assertEqual(desk.batch(()), 30)
            self.at_its_bound(desk, edit)

    def at_its_bound(self, desk, edit):
        """Looks that the desk with its 30 edits refuses each edit, ahead of all else."""
        self.assertEqual(desk.version, 30)
        for more in [
            edit, ("add", None), ("drop", 0), ("drop", 99), ("drop", None), ("put", 99, None), ("put", 0, (1, 1)),
            ("settle",), ("batch", ()), ("batch", None), ("batch", (("drop", 99),)), ("batch", (edit,)),
        ]:
            self.refuses(desk, TooManyEdits, None, None, do, desk, more)
        self.refuses(desk, Rejected, "index", 0, desk.attempt, (edit,), None)
        self.refuses(desk, BadBatch, None, None, desk.attempt, None, None)
        self.assertEqual(desk.attempt((), None), 30)
        self.refuses(desk, NoVersion, "given", 31, desk.at, 31)

    def test_copies_go_on_by_themselves(self):
        for cls in (Desk, EvenDesk):
            desk = cls(F)
            desk.batch((("drop", 0), ("settle",)))
            other = desk.copy()
            self.assertIs(type(other), cls)
            self.assertIsNot(other, desk)
            self.assertEqual(looks(other), looks(desk))
            before = looks(desk)
            other.add((0,)), other.settle(), other.undo(), other.undo(), other.undo()
            self.assertEqual(looks(desk), before)
            self.assertEqual(looks(other), looks(cls(F)))
            third = desk.copy()
            before = looks(third)
            desk.settle(), desk.undo(), desk.undo(), desk.settle(), desk.settle()
            self.assertEqual(looks(third), before)
            self.assertEqual(desk.version, 2)
            self.assertEqual([other.version, third.version, third.undo()], [0, 1, 0])

    def test_what_is_taken_back_leaves_nothing_behind(self):
        rng = random.Random(73)
        for cls in (Desk, EvenDesk):
            for load in drawn.even_loads(74)[::9]:
                desk, edits = cls(load), []
                for _ in range(12):
                    edit = models.drawn_edit(rng, desk.load, True)
                    if told_by_desk(do, desk, edit)[0] == "ok":
                        edits.append(edit)
                after = looks(desk)
                for _ in edits:
                    desk.undo()
                self.assertEqual(looks(desk), looks(cls(load)))
                for edit in edits:
                    do(desk, edit)
                self.assertEqual(looks(desk), after)

    def test_what_was_returned_never_changes_later(self):
        desk = Desk(F)
        desk.add((1,))
        kept = [desk.load, desk.at(0), desk.at(1), desk[0], list(desk), str(desk)]
        before = copy.deepcopy(kept)
        desk.drop(0), desk.put(0, (7,)), desk.settle(), desk.undo(), desk.batch((("drop", 0),) * 4)
        self.assertEqual(kept, before)
        rows = list(desk)
        rows.append((9,))
        self.assertEqual(len(desk), 1)

    def test_what_is_passed_stays_as_it_was(self):
        desk = Desk(F)
        for value in [[1, [2]], {"a": [1]}, ([1],), (("add", [1]),), ((["add"], 1),)]:
            before = repr(value)
            for edit in [("add", value), ("drop", value), ("put", value, value), ("put", 0, value), ("batch", value)]:
                self.assertNotEqual(told_by_desk(do, desk, edit)[0], "ok")
            self.assertEqual(told_by_desk(desk.at, value)[0], "NoVersion")
            self.assertEqual(repr(value), before)
        self.assertEqual(looks(desk), looks(Desk(F)))


class Even(Case):
    def test_each_edit_that_would_leave_it_uneven(self):
        desk = EvenDesk(E)
        for edit in [
            ("add", (0, 1)), ("add", (MOST, 0)), ("drop", 0), ("drop", 2), ("put", 0, (3, 1)), ("put", 2, (0, 0)),
            ("batch", (("drop", 0),)), ("batch", (("add", (1, 1)), ("add", (-1, 0)))),
        ]:
            self.refuses(desk, Uneven, None, None, do, desk, edit)
        self.assertEqual([desk.add((0, 0)), desk.put(0, (3, 0)), desk.drop(3), desk.settle()], [1, 2, 3, 4])
        self.assertEqual(desk.batch((("add", (1, 1)), ("add", (-1, -1)))), 5)
        self.assertEqual(desk.batch((("drop", 0), ("settle",))), 6)
        self.assertIs(bool(desk), True)

    def test_behind_its_other_errors(self):
        desk = EvenDesk(E)
        self.refuses(desk, BadRow, "given", None, desk.add, None)
        self.refuses(desk, NoRow, "given", 3, desk.drop, 3)
        self.refuses(desk, NoRow, "given", 3, desk.put, 3, None)
        self.refuses(desk, BadRow, "given", 1, desk.put, 0, 1)
        self.refuses(desk, BadBatch, None, None, desk.batch, (("drop", 0), None))
        self.refuses(desk, Rejected, "index", 1, desk.batch, (("drop", 0), ("drop", 2)))
        full = EvenDesk(FULL)
        self.refuses(full, TooMany, "limit", 24, full.add, (5,))
        self.refuses(full, TooMany, "limit", 24, full.settle)
        self.refuses(full, Rejected, "index", 0, full.batch, (("add", (5,)),))
        self.refuses(full, Uneven, None, None, full.drop, 0)

    def test_it_tells_what_a_desk_tells(self):
        rng = random.Random(75)
        told = {}
        for load in drawn.even_loads(76)[::4]:
            for _ in range(30):
                edit = models.drawn_edit(rng, load, True)
                desk, even = Desk(load), EvenDesk(load)
                expected, found = told_by_desk(do, desk, edit), told_by_desk(do, even, edit)
                if expected[0] == "ok" and not desk:
                    expected = ("Uneven", None)
                self.assertEqual(found, expected)
                self.assertEqual(even.load, desk.load if found[0] == "ok" else load)
                told[found[0]] = told.get(found[0], 0) + 1
        for name in ("ok", "Uneven", "BadRow", "NoRow", "TooMany", "BadBatch", "Rejected"):
            self.assertGreater(told[name], 10)


class Led(Case):
    """Desks and models of the test's own, led side by side."""

    def lead(self, rng, desk, model, steps):
        """Does drawn edits with both, and returns how often each answer was told."""
        told = {}
        for _ in range(steps):
            edit = models.drawn_edit(rng, desk.load, True)
            if rng.random() < 0.12:
                found, expected = told_by_desk(desk.undo), told_by_model(model.undo)
            else:
                found, expected = told_by_desk(do, desk, edit), told_by_model(model.edit, edit)
            self.assertEqual(found[0], expected[0])
            if isinstance(expected[1], int):
                self.assertEqual(found[1], expected[1])
            else:
                self.assertIs(found[1], expected[1])
            self.assertEqual(looks(desk), model_looks(model))
            told[found[0]] = told.get(found[0], 0) + 1
        return told

    def test_drawn_edits(self):
        rng = random.Random(77)
        told = {}
        for cls, loads in [(Desk, drawn.loads(78)[::6]), (EvenDesk, drawn.even_loads(79)[::5])]:
            for load in loads:
                with self.subTest(f"{cls.__name__} {drawn.shown(load)}"):
                    desk, model = cls(load), Model(cls, [load])
                    counts = self.lead(rng, desk, model, 20)
                    other, copied = desk.copy(), model.copy()
                    for one, its in [(desk, model), (other, copied), (desk, model)]:
                        for name, count in self.lead(rng, one, its, 25).items():
                            counts[name] = counts.get(name, 0) + count
                    for name, count in counts.items():
                        told[name] = told.get(name, 0) + count
        for name in (
            "ok", "BadRow", "NoRow", "TooMany", "TooGreat", "BadBatch", "Rejected", "TooManyEdits", "NothingToUndo",
            "Uneven",
        ):
            self.assertGreater(told.get(name, 0), 10, told)

    def test_each_call_at_the_bounds_is_quick(self):
        load = (4, ((MOST, -MOST, 1, 0), (-MOST, MOST, -1, 0)) * 12)
        desk = EvenDesk(load)
        for function, more in [
            (Desk, (load,)), (EvenDesk, (load,)), (desk.put, (0, load[1][0])), (desk.undo, ()), (desk.at, (0,)),
            (desk.batch, ((("put", 0, load[1][0]),) * 12,)), (desk.copy, ()), (str, (desk,)), (list, (desk,)),
            (desk.attempt, ((("batch", (("put", 0, load[1][0]),) * 12),) * 12, None)),
        ]:
            self.assertLess(drawn.seconds(function, *more), drawn.SECONDS)

    def test_equal_calls_get_equal_results(self):
        answers = []
        for _ in range(2):
            rng = random.Random(80)
            desk = Desk(F)
            told = []
            for _ in range(40):
                edit = models.drawn_edit(rng, desk.load, True)
                told.append((told_by_desk(do, desk, edit)[0], looks(desk)))
                Desk(E).settle()
            answers.append(told)
        self.assertEqual(answers[0], answers[1])


class Examples(Case):
    def test_those_of_the_document(self):
        d = Desk((1, ()))
        self.assertEqual([d.add((2,)), d.add((-5,)), bool(d), d.settle(), bool(d)], [1, 2, False, 3, True])
        self.assertEqual([d.load, len(d), (3,) in d, d[1]], [(1, ((2,), (-5,), (3,))), 3, True, (-5,)])
        self.assertEqual(str(d), "1\n2\n-5\n3")
        self.assertEqual([d.batch((("drop", 0), ("put", 0, (-3,)))), d.load], [4, (1, ((-3,), (3,)))])
        self.assertEqual([d.undo(), d.at(1)], [3, (1, ((2,),))])
        self.assertEqual(d.attempt((("add", (1,)), ("settle",)), None), 5)
        self.assertIs(d.copy() == d, True)
        e = EvenDesk((1, ((1,), (-1,))))
        self.raises(Uneven, None, None, e.drop, 0)
        self.assertEqual(e.batch((("drop", 0), ("drop", 0))), 1)


if __name__ == "__main__":
    unittest.main()
