"""N5: shells, the lines that they understand and what they answer."""

import copy
import random
import re
import unittest

import drawn
import models
from drawn import E, F, MOST
from models import Model, looks, model_looks, told_by_model
from nearnought import shells
from nearnought.desks import Desk, EvenDesk
from nearnought.shells import Shell

ODD_NUMBERS = [
    "05", "00", "-0", "-00", "-05", "+1", "+0", "--1", "-", "", "1.0", "1e3", "x", "1x", "0x1", "1_0", "True", "None",
    "10000000", "-10000000", "00000001", "99999999", "9" * 900, "(1)", "1,", "\t1", "1\n", "\u0661", "\u00b2", "\uff11",
    "\u22121", "1\u00a0", "one",
]
NUMBER = re.compile(r"(0|-?[1-9][0-9]{0,6})\Z", re.ASCII)
HIGH = (2, ((3, -1), (4, -2), (-9, 5), (2, -2)))


def own_answer(model, line):
    """The answer to the line, by the document's words."""
    if type(line) is not str or not all(re.match(r"[^ ]+\Z", word) for word in line.split(" ")):
        return "what"
    word, *texts = line.split(" ")
    if not all(NUMBER.match(text) for text in texts):
        return "what"
    numbers = [int(text) for text in texts]
    load = model.loads[-1]
    wanted = {"add": load[0], "put": 1 + load[0], "drop": 1, "settle": 0, "undo": 0}
    if word in wanted and len(numbers) == wanted[word]:
        edits = {
            "add": lambda: ("add", tuple(numbers)), "put": lambda: ("put", numbers[0], tuple(numbers[1:])),
            "drop": lambda: ("drop", numbers[0]), "settle": lambda: ("settle",),
        }
        told = told_by_model(model.undo) if word == "undo" else told_by_model(model.edit, edits[word]())
        return f"ok {told[1]}" if told[0] == "ok" else f"no {told[0]}"
    if line == "rows":
        return f"{len(load[1])}"
    if line == "even":
        return "yes" if models.own_even(load) else "no"
    if line == "sum":
        return " ".join(f"{item}" for item in models.own_sum(load))
    if line == "height":
        totals = [models.own_sum((load[0], load[1][:many])) for many in range(len(load[1]) + 1)]
        return f"{max(abs(item) for total in totals for item in total)}"
    return "what"


def drawn_line(rng, load):
    """A line, right or wrong."""
    word = rng.choice(["add", "add", "add", "put", "put", "drop", "settle", "undo", "rows", "even", "sum", "height"])
    if rng.random() < 0.05:
        word = rng.choice(["", "ADD", "adds", "batch", "at", "copy", "load", "attempt", "load_text", "x", "0"])
    many = {"add": load[0], "put": 1 + load[0], "drop": 1}.get(word, 0) + rng.choice([0] * 12 + [1, -1])
    numbers = []
    for place in range(many):
        if rng.random() < 0.04:
            numbers.append(rng.choice(ODD_NUMBERS))
        elif word == "drop" or word == "put" and place == 0:
            numbers.append(str(rng.randint(-1 if rng.random() < 0.1 else 0, len(load[1]))))
        else:
            most = rng.choice([1, 9, 9, MOST, 9999999])
            numbers.append(str(rng.randint(-most, most)))
    line = rng.choice([" "] * 30 + ["  ", "\t"]).join([word] + numbers)
    if rng.random() < 0.05:
        line = rng.choice([" " + line, line + " ", line + "\n", "\n" + line, line.upper(), line + " 0"])
    return line


class Case(unittest.TestCase):
    def says(self, shell, line, answer):
        with self.subTest(f"{line!r:.100}"):
            found = shell.say(line)
            self.assertIs(type(found), str)
            self.assertEqual(found, answer)
            told = line if type(line) is str else None
            self.assertEqual(shell.history[-1], (told, answer))

    def what(self, shell, line):
        """Looks that the line is not understood, and that the desk is as it was."""
        before = looks(shell.desk)
        self.says(shell, line, "what")
        self.assertEqual(looks(shell.desk), before)


class Lines(Case):
    def test_it_is_defined_in_its_module_with_methods_of_its_own(self):
        self.assertEqual(Shell.__module__, "nearnought.shells")
        self.assertIs(shells.Shell, Shell)
        for name in ("__init__", "desk", "history", "say"):
            self.assertIn(name, vars(Shell))

    def test_edits(self):
        shell = Shell(Desk((2, ())))
        for line, answer in [
            ("add 1 2", "ok 1"), ("add -3 0", "ok 2"), ("add 1000000 -1000000", "ok 3"), ("put 2 5 5", "ok 4"),
            ("drop 0", "ok 5"), ("settle", "ok 6"), ("undo", "ok 5"), ("undo", "ok 4"), ("settle", "ok 5"),
        ]:
            self.says(shell, line, answer)
        self.assertEqual(shell.desk.load, (2, ((1, 2), (-3, 0), (5, 5), (-3, -7))))
        self.assertEqual(shell.desk.at(3), (2, ((1, 2), (-3, 0), (MOST, -MOST))))

    def test_each_number_of_kinds(self):
        for kinds in range(1, 5):
            shell = Shell(Desk((kinds, ())))
            row = tuple(range(-1, kinds - 1))
            numbers = [str(item) for item in row]
            self.says(shell, " ".join(["add"] + numbers), "ok 1")
            self.says(shell, " ".join(["put", "0"] + numbers[::-1]), "ok 2")
            self.assertEqual(shell.desk.load, (kinds, (row[::-1],)))
            for many in range(7):
                if many != kinds:
                    self.what(shell, " ".join(["add"] + ["1"] * many))
                    self.what(shell, " ".join(["put", "0"] + ["1"] * many))
                if many != 1:
                    self.what(shell, " ".join(["drop"] + ["0"] * many))
                if many != 0:
                    for word in ("settle", "undo", "rows", "even", "sum", "height"):
                        self.what(shell, " ".join([word] + ["0"] * many))
            self.what(shell, "put")

    def test_questions(self):
        for load, rows, even, total, high in [
            ((1, ()), "0", "yes", "0", "0"), ((4, ()), "0", "yes", "0 0 0 0", "0"), (E, "3", "yes", "0 0", "3"),
            (F, "5", "yes", "0", "6"), (HIGH, "4", "yes", "0 0", "7"),
            ((3, ((1, -2, 0),) * 24), "24", "no", "24 -48 0", "48"), ((1, ((-5,), (2,))), "2", "no", "-3", "5"),
            ((1, ((MOST,),) * 24), "24", "no", "24000000", "24000000"),
            ((2, ((1, 1), (0, -9), (0, 9))), "3", "no", "1 1", "8"),
        ]:
            for shell in [Shell(Desk(load))] + ([Shell(EvenDesk(load))] if even == "yes" else []):
                self.says(shell, "rows", rows)
                self.says(shell, "even", even)
                self.says(shell, "sum", total)
                self.says(shell, "height", high)
                self.assertEqual(shell.desk.version, 0)

    def test_the_height_is_that_of_the_rows_as_they_stand(self):
        shell = Shell(Desk((1, ((1,), (1,), (-1,), (-1,)))))
        self.says(shell, "height", "2")
        self.says(shell, "put 1 -1", "ok 1")
        self.says(shell, "put 2 1", "ok 2")
        self.says(shell, "height", "1")

    def test_no_and_the_name_of_the_class(self):
        shell = Shell(Desk((1, ((1,), (2,)))))
        for line, answer in [
            ("drop 2", "no NoRow"), ("drop -1", "no NoRow"), ("drop 9999999", "no NoRow"), ("put 2 5", "no NoRow"),
            ("put 5 9999999", "no NoRow"), ("put 0 1000001", "no BadRow"), ("add 1000001", "no BadRow"),
            ("add -1000001", "no BadRow"), ("add 9999999", "no BadRow"), ("undo", "no NothingToUndo"),
        ]:
            before = looks(shell.desk)
            self.says(shell, line, answer)
            self.assertEqual(looks(shell.desk), before)
        even = Shell(EvenDesk(E))
        for line in ("add 0 1", "drop 0", "put 0 0 0"):
            self.says(even, line, "no Uneven")
        self.says(even, "add 0", "what")
        self.says(even, "drop 3", "no NoRow")
        self.says(even, "settle", "ok 1")
        full = Shell(Desk((1, ((MOST,),) * 24)))
        self.says(full, "add 1", "no TooMany")
        self.says(full, "settle", "no TooMany")
        self.says(full, "drop 0", "ok 1")
        self.says(full, "settle", "no TooGreat")
        for version in range(2, 31):
            self.says(full, "put 0 1", f"ok {version}")
        for line in ("put 0 1", "add 9999999", "drop 99", "settle"):
            self.says(full, line, "no TooManyEdits")
        self.says(full, "undo", "ok 29")

    def test_numbers(self):
        for text in ODD_NUMBERS:
            shell = Shell(Desk((1, ((1,),))))
            for line in ("add " + text, "drop " + text, "put 0 " + text, "put " + text + " 0"):
                self.what(shell, line)
            self.what(Shell(Desk((3, ()))), f"add 1 {text} 2")
            self.what(Shell(Desk((3, ()))), f"add 1 2 {text}")
        for text in ["0", "1", "-1", "10", "-10", "999999", "-999999", "1000000", "-1000000", "100", "90909"]:
            shell = Shell(Desk((1, ((1,),))))
            self.says(shell, "add " + text, "ok 1")
            self.assertEqual(shell.desk[1], (int(text),))
        for text in ["1000001", "-1000001", "9999999", "-9999999"]:
            self.says(Shell(Desk((1, ()))), "add " + text, "no BadRow")

    def test_words_and_blanks(self):
        shell = Shell(Desk((1, ((1,), (-1,)))))
        for line in [
            "", " ", "  ", "\n", "add", "add ", " add 1", "add 1 ", "add  1", "add\t1", "add\n1", "add 1\n", "\nadd 1",
            "Add 1", "ADD 1", "adds 1", "add1", "add,1", "drop", "drop  0", "drop 0 ", " drop 0", "settle ", " settle",
            "settle\n", "Settle", "settle 0", "undo ", " undo", "undo 1", "rows ", " rows", "rows 1", "rows\n", "ROWS",
            "row", "even ", "even?", "odd", "sum ", "sum 0", "sums", "height ", "height 0", "0", "1", "-1", "1 add",
            "what", "ok", "ok 1", "no", "yes", "batch", "batch ()", "at 0", "copy", "load", "version", "attempt",
            "history", "desk", "say", "add drop", "drop add", "settle settle", "undo undo", "put", "put 0", "put  0 1",
            "put 0  1", "put 0 1 ", "x", "a" * 1000, " " * 1000, "add 1;drop 0", "rows even", "1 2 3", "\u00e4dd 1",
            "add\u00a01", "None", "_edited",
        ]:
            self.what(shell, line)

    def test_values_that_are_no_string(self):
        shell = Shell(Desk(E))
        more = [0, 1, 10 ** 399, b"rows", ["rows"], ("rows",), {"rows": 1}, E, shell, shell.desk]
        for value in drawn.values() + more:
            if not isinstance(value, str):
                self.what(shell, value)
                self.assertIsNone(shell.history[-1][0])
        for value in [["add", [1]], {"line": ["rows"]}, ([1],)]:
            before = copy.deepcopy(value)
            self.what(shell, value)
            self.assertEqual(value, before)


class Histories(Case):
    def test_history_is_the_last_ten_pairs(self):
        shell = Shell(desk=Desk((1, ())))
        self.assertEqual(shell.history, ())
        told = []
        for number in range(25):
            line = ["add 1", "rows", "x", 7, "drop 99", "sum", None][number % 7]
            answer = shell.say(line=line)
            told.append((line if isinstance(line, str) else None, answer))
            self.assertEqual(shell.history, tuple(told[-10:]))
            self.assertIs(type(shell.history), tuple)
            self.assertTrue(all(type(pair) is tuple for pair in shell.history))
        self.assertEqual(len(shell.history), 10)

    def test_a_history_told_never_changes_later(self):
        shell = Shell(Desk(F))
        shell.say("rows")
        kept = shell.history
        for _ in range(12):
            shell.say("settle")
        self.assertEqual(kept, (("rows", "5"),))

    def test_desk_and_history_can_only_be_read(self):
        desk = Desk(F)
        shell = Shell(desk)
        shell.say("rows")
        for name, value in [("desk", Desk(E)), ("history", ()), ("desk", desk)]:
            with self.assertRaises(AttributeError):
                setattr(shell, name, value)
            with self.assertRaises(AttributeError):
                delattr(shell, name)
        self.assertIs(shell.desk, desk)
        self.assertEqual(shell.history, (("rows", "5"),))

    def test_two_shells_on_one_desk(self):
        desk = EvenDesk(E)
        one, other = Shell(desk), Shell(desk)
        self.assertIs(one.desk, desk)
        self.assertIs(other.desk, desk)
        self.says(one, "settle", "ok 1")
        self.says(other, "rows", "4")
        self.says(other, "put 3 0 0", "ok 2")
        self.assertEqual(desk.undo(), 1)
        self.says(one, "undo", "ok 0")
        self.says(other, "undo", "no NothingToUndo")
        self.assertEqual(one.history, (("settle", "ok 1"), ("undo", "ok 0")))
        self.assertEqual(other.history, (("rows", "4"), ("put 3 0 0", "ok 2"), ("undo", "no NothingToUndo")))

    def test_the_desk_is_the_very_one(self):
        desk = Desk(F)
        shell = Shell(desk)
        desk.drop(0)
        self.says(shell, "rows", "4")
        self.says(shell, "drop 0", "ok 2")
        self.assertEqual([desk.version, len(desk)], [2, 3])
        other = desk.copy()
        self.says(Shell(other), "settle", "ok 3")
        self.assertEqual(desk.version, 2)


class Led(Case):
    def test_drawn_lines(self):
        rng = random.Random(91)
        told = {}
        for cls, loads in [(Desk, drawn.loads(92)[::6]), (EvenDesk, drawn.even_loads(93)[::5])]:
            for number, load in enumerate(loads):
                shell, model, pairs = Shell(cls(load)), Model(cls, [load]), []
                for _ in range(number % 3 * 14):
                    self.assertEqual(shell.desk.batch(()), model.edit(("batch", ())))
                for _ in range(60):
                    line = drawn_line(rng, model.loads[-1])
                    expected = own_answer(model, line)
                    self.says(shell, line, expected)
                    self.assertEqual(looks(shell.desk), model_looks(model))
                    pairs.append((line, expected))
                    self.assertEqual(shell.history, tuple(pairs[-10:]))
                    key = " ".join(expected.split()[:2]) if expected[:2] == "no" else expected.split()[0]
                    told[key] = told.get(key, 0) + 1
        for key in (
            "ok", "what", "yes", "no", "0", "no NoRow", "no BadRow", "no TooMany", "no TooGreat", "no TooManyEdits",
            "no NothingToUndo", "no Uneven",
        ):
            self.assertGreater(told.get(key, 0), 10, key)

    def test_equal_calls_get_equal_results_and_quickly(self):
        answers = []
        for _ in range(2):
            rng, shell = random.Random(94), Shell(Desk(HIGH))
            answers.append([shell.say(drawn_line(rng, shell.desk.load)) for _ in range(50)])
        self.assertEqual(answers[0], answers[1])
        shell = Shell(EvenDesk((4, ((MOST,) * 4, (-MOST,) * 4) * 12)))
        for line in ["put 0 1000000 1000000 1000000 1000000", "height", "sum", "rows", "even", "undo", "x" * 1000]:
            self.assertLess(drawn.seconds(shell.say, line), drawn.SECONDS)


class Examples(Case):
    def test_those_of_the_document(self):
        e = EvenDesk((1, ((1,), (-1,))))
        s = Shell(e)
        self.assertEqual(e.batch((("drop", 0), ("drop", 0))), 1)
        for line, answer in [
            ("add 5", "no Uneven"), ("even", "yes"), ("sum", "0"), ("add 0 0", "what"), ("settle", "ok 2"),
            ("rows", "1"), ("height", "0"),
        ]:
            self.says(s, line, answer)
        self.assertEqual(s.history[1], ("even", "yes"))


if __name__ == "__main__":
    unittest.main()
