"""N3: attempts, what they show to on_step and what that may do, and that they are done wholly or not at all."""

import random
import unittest

import drawn
import models
from drawn import E, F, MOST
from models import Model, do, looks, model_looks, told_by_desk, told_by_model
from nearnought import errors
from nearnought.desks import Desk, EvenDesk
from nearnought.errors import BadBatch, Busy, NoRow, Rejected, TooManyEdits, Uneven
from nearnought.shells import Shell

DEEDS = (("add", (1,)), ("drop", 0), ("batch", (("add", (5,)), ("drop", 0))), ("settle",))


class OwnError(Exception):
    """An error that an on_step of the tests raises."""


class Case(unittest.TestCase):
    def stays(self, desk, kind, field, given, *args, **named):
        """Looks that the attempt raises an error of just this kind, and leaves the desk as it was."""
        before = looks(desk)
        error = drawn.caught(desk.attempt, *args, **named)
        self.assertIs(type(error), kind)
        if field is not None:
            self.assertEqual(getattr(error, field), given)
            self.assertIsNot(type(getattr(error, field)), bool)
        self.assertEqual(looks(desk), before)
        self.free(desk)
        return error

    def free(self, desk):
        """Looks that the desk is not busy."""
        version = desk.version
        if version < 30:
            self.assertEqual(desk.batch(()), version + 1)
            self.assertEqual(desk.undo(), version)


class Whole(Case):
    def test_without_on_step(self):
        for cls in (Desk, EvenDesk):
            desk = cls((1, ()))
            self.assertEqual(desk.attempt((("add", (0,)), ("settle",)), None), 2)
            self.assertEqual(desk.attempt(deeds=(("batch", (("add", (5,)), ("settle",))),), on_step=None), 3)
            self.assertEqual(desk.attempt(on_step=None, deeds=()), 3)
            self.assertEqual(desk.load, (1, ((0,), (0,), (5,), (-5,))))
            self.assertEqual([desk.at(version) for version in range(3)], [(1, ((0,),) * many) for many in range(3)])
            self.assertEqual([desk.undo(), desk.undo(), desk.undo()], [2, 1, 0])

    def test_each_item_is_an_edit_of_its_own(self):
        desk, one = Desk(F), Desk(F)
        self.assertEqual(desk.attempt(DEEDS, None), 4)
        for deed in DEEDS:
            do(one, deed)
        self.assertEqual(looks(desk), looks(one))
        self.assertEqual([desk.undo(), desk.undo()], [3, 2])
        self.assertEqual(desk.load, (1, ((2,), (2,), (-3,), (-3,), (1,))))

    def test_on_step_sees_each_edit(self):
        for cls in (Desk, EvenDesk):
            desk, seen = cls(F), []
            desk.settle()
            deeds = (("settle",), ("batch", (("drop", 0), ("add", (2,)))), ("put", 5, (0,)))

            def look(*args):
                self.assertEqual(len(args), 1)
                self.assertIs(args[0], desk)
                seen.append(looks(args[0]))

            self.assertEqual(desk.attempt(deeds, look), 4)
            model, shown = Model(cls, [F]), []
            model.edit(("settle",))
            model.attempt(deeds, shown)
            self.assertEqual([one[1] for one in seen], shown)
            self.assertEqual(seen[-1], looks(desk))
            self.assertEqual(seen, [model_looks(Model(cls, loads)) for loads in shown])
            self.free(desk)

    def test_not_called_without_deeds(self):
        desk, seen = Desk(F), []
        self.assertEqual(desk.attempt((), seen.append), 0)
        self.assertEqual(seen, [])
        self.assertEqual(desk.attempt((("batch", ()),), seen.append), 1)
        self.assertEqual(len(seen), 1)
        self.assertIs(seen[0], desk)

    def test_what_on_step_returns_does_not_matter(self):
        for value in drawn.values() + [0, 1, Busy(), OwnError()]:
            desk = Desk(F)
            self.assertEqual(desk.attempt(DEEDS, lambda shown: value), 4)

    def test_bad_batches(self):
        def never(shown):
            raise OwnError()

        for desk in (Desk(E), EvenDesk(E), Desk((2, ((1, 1),) * 24))):
            for value in models.wrong_batches(E) + [value for value in drawn.values() if value != ()]:
                with self.subTest(repr(value)[:150]):
                    before = repr(value)
                    self.stays(desk, BadBatch, None, None, value, never)
                    self.stays(desk, BadBatch, None, None, deeds=value, on_step=None)
                    self.assertEqual(repr(value), before)
        desk = Desk(E)
        self.stays(desk, BadBatch, None, None, (("drop", 0),) * 13, never)
        self.stays(desk, BadBatch, None, None, (("drop", 99), ("batch",)), never)
        self.stays(desk, BadBatch, None, None, (("drop", 0), ("attempt", (), None)), never)
        self.assertEqual(desk.attempt((("batch", ()),) * 12, None), 12)


class Refused(Case):
    def test_rejected_with_the_place_of_the_item(self):
        for cls in (Desk, EvenDesk):
            for wrong in [
                ("drop", 24), ("drop", True), ("add", None), ("add", (1, 2)), ("put", 24, (0,)), ("put", 0, [1]),
                ("batch", None), ("batch", [("settle",)]), ("batch", (("settle",), ("drop", 99))), ("batch", ((),)),
                ("batch", (("batch", ()),)), ("batch", (("settle",),) * 13), ("batch", 0), ("batch", ("settle",)),
            ]:
                for ahead in (0, 1, 5, 11):
                    desk, seen = cls(F), []
                    desk.settle()
                    deeds = (("settle",),) * ahead + (wrong,) + (("drop", 77),) * (11 - ahead)
                    with self.subTest(f"{cls.__name__} {deeds!r:.150}"):
                        self.stays(desk, Rejected, "index", ahead, deeds, lambda shown: seen.append(shown.version))
                        self.assertEqual(seen, list(range(2, ahead + 2)))
                        self.stays(desk, Rejected, "index", ahead, deeds, None)

    def test_too_many_too_great_and_too_many_edits(self):
        full = Desk((1, ((1,),) * 22))
        self.stays(full, Rejected, "index", 2, (("settle",),) * 3, None)
        self.stays(full, Rejected, "index", 1, (("add", (MOST,)), ("settle",)), None)
        for stand in (19, 29, 30):
            for cls in (Desk, EvenDesk):
                desk = cls((1, ()))
                for _ in range(stand):
                    desk.batch(())
                self.stays(desk, Rejected, "index", 30 - stand, (("batch", ()),) * 12, None)
                self.assertEqual(desk.attempt((("batch", ()),) * (30 - stand), None), 30)
                self.assertIs(type(drawn.caught(desk.batch, ())), TooManyEdits)

    def test_uneven_is_rejected_too(self):
        desk = EvenDesk((1, ((1,), (-1,))))
        self.stays(desk, Rejected, "index", 1, (("settle",), ("add", (5,)), ("add", (-5,))), None)
        self.assertEqual(desk.attempt((("settle",), ("batch", (("add", (5,)), ("add", (-5,))))), None), 2)

    def test_what_on_step_raises_goes_on_as_it_is(self):
        raised = [OwnError("x"), ValueError(3), KeyError(), KeyboardInterrupt(), StopIteration(), SystemExit(2)]
        for name, cls in vars(errors).items():
            if isinstance(cls, type) and issubclass(cls, errors.AmountError) and cls is not errors.AmountError:
                raised.append(cls(7) if cls.__init__ is not ValueError.__init__ else cls())
        self.assertGreater(len(raised), 20)
        for error in raised:
            for last in (1, 2, 4):
                desk = Desk(F)
                desk.settle()
                before = looks(desk)

                def throw(shown):
                    if shown.version == last + 1:
                        raise error

                caught = None
                try:
                    desk.attempt(DEEDS, throw)
                except BaseException as other:
                    caught = other
                self.assertIs(caught, error)
                self.assertEqual(looks(desk), before)
                self.free(desk)

    def test_an_error_of_the_desk_itself_that_on_step_lets_through(self):
        desk = Desk(F)
        self.stays(desk, Busy, None, None, DEEDS, lambda shown: shown.add((1,)))
        self.stays(desk, Busy, None, None, DEEDS, lambda shown: shown.undo())
        self.stays(desk, Busy, None, None, DEEDS, lambda shown: shown.attempt((), None))
        self.stays(desk, NoRow, "given", 99, DEEDS, lambda shown: shown[99])
        self.stays(desk, errors.NoVersion, "given", 2, DEEDS, lambda shown: shown.at(2))
        self.stays(desk, errors.BadLoad, "error", (None, "load"), DEEDS, lambda shown: Desk(None))
        self.stays(desk, Uneven, None, None, DEEDS, lambda shown: EvenDesk(shown.load))
        edits = (("settle",),) * 3 + (("add", 0),)
        self.stays(desk, Rejected, "index", 3, DEEDS, lambda shown: shown.copy().batch(edits))


class WhileItRuns(Case):
    def test_all_edits_undo_and_attempt_are_busy_ahead_of_all_else(self):
        tries = [
            ("add", (1,)), ("add", None), ("drop", 0), ("drop", 99), ("put", 0, (1,)), ("put", 99, None), ("settle",),
            ("batch", ()), ("batch", None), ("batch", (("drop", 99),)), ("undo",), ("attempt", (), None),
            ("attempt", None, None), ("attempt", (("drop", 99),), None),
        ]
        for cls in (Desk, EvenDesk):
            for start in (0, 26):
                desk, told = cls(F), []
                for _ in range(start):
                    desk.settle() if len(desk) < 20 else desk.drop(5)
                deeds = (("batch", (("settle",), ("drop", 5))),) * 4

                def attempt_all(shown):
                    before = looks(shown)
                    told.extend(told_by_desk(do, shown, one) for one in tries)
                    self.assertEqual(looks(shown), before)
                    self.assertIs(shown, desk)

                self.assertEqual(desk.attempt(deeds, attempt_all), start + 4)
                self.assertEqual(told, [("Busy", None)] * (4 * len(tries)))
                self.free(desk)

    def test_what_only_looks_is_not_busy(self):
        desk, told = Desk(E), []

        def look(shown):
            told.append((shown.load, shown.at(0), shown.at(shown.version), shown == desk, shown != desk, bool(shown)))
            told.append((len(shown), shown[0], (3, 0) in shown, list(shown), str(shown), shown.copy() == shown))

        self.assertEqual(desk.attempt((("add", (0, 0)),), look), 1)
        load = desk.load
        self.assertEqual(told[0], (load, E, load, True, False, True))
        self.assertEqual(told[1], (4, (3, 0), True, list(load[1]), str(desk), True))

    def test_copies_and_other_desks_are_not_busy(self):
        for cls in (Desk, EvenDesk):
            desk, other, copies = cls(F), cls(E), []

            def lead(shown):
                copied = shown.copy()
                copied.settle(), copied.settle(), copied.undo()
                copied.attempt((("settle",), ("batch", ())), lambda inner: self.refuse(inner, shown))
                copies.append(copied)
                if other.version < 30:
                    other.settle(), other.drop(3)
                    other.attempt((("settle",), ("drop", 3)), lambda inner: self.refuse(inner, shown))

            self.assertEqual(desk.attempt((("settle",), ("settle",), ("drop", 5)), lead), 3)
            self.assertEqual([(type(one), one.version) for one in copies], [(cls, 4), (cls, 5), (cls, 6)])
            self.assertEqual([one.at(0) for one in copies], [F] * 3)
            self.assertEqual([one.undo() for one in copies], [3, 4, 5])
            self.assertEqual([other.version, other.load], [12, E])
            self.assertEqual(desk.load, (1, F[1] + ((0,),)))
            self.free(desk), self.free(other)

    def refuse(self, *desks):
        """Looks that all these desks are busy."""
        for desk in desks:
            self.assertEqual(told_by_desk(desk.batch, ()), ("Busy", None))
            self.assertEqual(told_by_desk(desk.undo), ("Busy", None))

    def test_an_attempt_within_that_of_another_desk_raises(self):
        one, other = Desk(F), Desk(E)
        one.settle(), other.settle()
        before = looks(one), looks(other)

        def throw(shown):
            raise OwnError(shown)

        error = drawn.caught(one.attempt, DEEDS, lambda shown: other.attempt((("settle",), ("settle",)), throw))
        self.assertIs(type(error), OwnError)
        self.assertIs(error.args[0], other)
        self.assertEqual((looks(one), looks(other)), before)
        self.free(one), self.free(other)

        def calm(shown):
            self.assertIs(type(drawn.caught(other.attempt, (("settle",), ("settle",)), throw)), OwnError)
            self.assertIs(type(drawn.caught(other.attempt, (("settle",), ("drop", 99)), None)), Rejected)
            self.refuse(shown)

        self.assertEqual(one.attempt(DEEDS, calm), 5)
        self.assertEqual(looks(other), before[1])

    def test_copies_made_while_it_runs_stay_when_it_fails(self):
        desk, copies = Desk(F), []

        def keep(shown):
            copies.append(shown.copy())
            if shown.version == 3:
                raise OwnError()

        self.stays(desk, OwnError, None, None, DEEDS, keep)
        self.assertEqual([one.version for one in copies], [1, 2, 3])
        self.assertEqual(copies[2].load, (1, ((2,), (-3,), (-3,), (1,), (5,))))
        self.assertEqual([copies[0].settle(), copies[2].undo(), copies[1].version], [2, 2, 2])

    def test_a_shell_says_busy(self):
        desk, told = Desk(F), []
        shell = Shell(desk)
        desk.attempt((("settle",),), lambda shown: told.extend(shell.say(line) for line in ["add 1", "undo", "rows"]))
        self.assertEqual(told, ["no Busy", "no Busy", "6"])
        self.assertEqual(shell.say("undo"), "ok 0")


class Led(Case):
    def test_drawn_attempts(self):
        rng = random.Random(81)
        told = {}
        for cls, loads in [(Desk, drawn.loads(82)[::5]), (EvenDesk, drawn.even_loads(83)[::4])]:
            for load in loads:
                desk, model = cls(load), Model(cls, [load])
                for _ in range(8):
                    deeds, seen, shown = models.drawn_batch(rng, desk.load, True), [], []
                    found = told_by_desk(desk.attempt, deeds, lambda now: seen.append(looks(now)))
                    with self.subTest(f"{cls.__name__} {drawn.shown(load)} {deeds!r:.150}"):
                        self.assertEqual(found, told_by_model(model.attempt, deeds, shown))
                        self.assertEqual(seen, [model_looks(Model(cls, loads)) for loads in shown])
                        self.assertEqual(looks(desk), model_looks(model))
                    told[found[0]] = told.get(found[0], 0) + 1
        for name in ("ok", "BadBatch", "Rejected"):
            self.assertGreater(told[name], 50, told)

    def test_each_call_at_the_bounds_is_quick(self):
        load = (4, ((MOST, -MOST, 1, 0), (-MOST, MOST, -1, 0)) * 12)
        deeds = (("batch", (("put", 0, load[1][0]),) * 12),) * 12
        self.assertLess(drawn.seconds(EvenDesk(load).attempt, deeds, looks), drawn.SECONDS)


if __name__ == "__main__":
    unittest.main()
