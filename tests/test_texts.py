"""A7: the texts of loads, and reading them back (A2 (h), first half)."""

import copy
import unittest

import drawn
from drawn import E, F, MOST
from nearnought import texts
from nearnought.errors import BadText
from nearnought.texts import load_text, parse_load


def own_text(load):
    text = f"{load[0]}"
    for row in load[1]:
        text += "\n" + " ".join(f"{item:d}" for item in row)
    return text


class Texts(unittest.TestCase):
    def test_they_are_defined_in_their_module(self):
        for function in (load_text, parse_load):
            self.assertEqual(function.__module__, "nearnought.texts")
            self.assertIs(getattr(texts, function.__name__), function)

    def test_the_text_of_loads_and_the_way_back(self):
        for load in drawn.loads(7):
            with self.subTest(drawn.shown(load)):
                text = load_text(load)
                self.assertIs(type(text), str)
                self.assertEqual(text, own_text(load))
                self.assertEqual(load_text(load=load), text)
                self.assertEqual(parse_load(text), load)
                self.assertEqual(parse_load(value=text), load)
                self.assertTrue(drawn.is_plain(parse_load(text)))

    def test_a_few_texts(self):
        for load, text in [
            ((1, ()), "1"), ((4, ()), "4"), ((1, ((0,),)), "1\n0"), ((1, ((-10,), (10,))), "1\n-10\n10"),
            ((4, ((MOST, -MOST, 0, -1),)), "4\n1000000 -1000000 0 -1"),
            ((2, ((100, 200),) * 24), "2" + "\n100 200" * 24),
        ]:
            with self.subTest(text[:100]):
                self.assertEqual(load_text(load), text)
                self.assertEqual(parse_load(text), load)


class Wrong(unittest.TestCase):
    def check(self, value, line):
        with self.subTest(f"{value!r:.200}"):
            for error in (drawn.caught(parse_load, value), drawn.caught(parse_load, value=value)):
                self.assertIs(type(error), BadText)
                self.assertEqual(error.line, line)
                self.assertIsNot(type(error.line), bool)

    def test_what_is_no_string(self):
        for value in drawn.values() + [0, 1, 10 ** 399, b"1", b"1\n5", (1, ()), E, ["1", "5"], ("1\n5",)]:
            if not isinstance(value, str):
                self.check(value, None)

    def test_kinds(self):
        for kinds in [
            "", "0", "5", "-1", "10", "01", "04", "+1", "-0", " 1", "1 ", "1 1", "\t1", "1\r", "one", "x", "1.0", "1_",
            "0x1", "None", "True", "9" * 900, "1" + "0" * 900, "-" * 900, "0" * 900, "\u00b2", "\u0661", "1\x0b",
        ]:
            self.check(kinds, 0)
            self.check(kinds + "\n5", 0)
            self.check(kinds + "\nx" * 30, 0)

    def test_a_line_feed_too_many(self):
        self.check("\n", 0)
        self.check("\n1", 0)
        self.check("\n1\n5", 0)
        self.check("1\n", 1)
        self.check("1\n\n", 1)
        self.check("1\n\n5", 1)
        self.check("1\n5\n", 2)
        self.check("1\n5\n\n6", 2)
        self.check("2\n5 6\n7 8\n", 3)

    def test_items(self):
        for item in [
            "01", "-01", "00", "-00", "-0", "+0", "+1", "--1", "-", "+", "- 1", "", "x", "1x", "x1", "1.0", "1e3",
            "1_0", "0x1", "1000001", "-1000001", "10000000", "01000000", "-01000000", "0000001",
            "9" * 900, "-" + "9" * 900, "None", "True", "1,", "(1,)", "\u0661", "\u00b2", "\uff11",
            "1\r", "1\t", "1\x0b", "1\x0c", "\u2212" "1",
        ]:
            self.check("1\n" + item, 1)
            self.check("1\n5\n-6\n" + item + "\n7", 3)
            for place in range(3):
                words = ["1", "-2", "0"]
                words[place] = item
                self.check("3\n4 5 6\n" + " ".join(words), 2)
                self.check("3\n" + " ".join(words) + "\n4 5 6", 1)

    def test_just_within_the_bound(self):
        self.assertEqual(parse_load("2\n1000000 -1000000\n999999 -999999"), (2, ((MOST, -MOST), (MOST - 1, 1 - MOST))))

    def test_blanks(self):
        for line in [
            " 1 2", "1 2 ", "1  2", "1   2", "  1 2", "1 2  ", "1\t2", " ", "  ", "12", "1,2", "1, 2", "1\u00a02",
        ]:
            self.check("2\n" + line, 1)
            self.check("2\n3 4\n" + line + "\n5 6", 2)
        self.check("1\n 5", 1)
        self.check("1\n5 ", 1)
        self.check("1 \n5", 0)
        self.check(" 1\n5", 0)

    def test_an_item_too_few_or_too_many(self):
        self.check("1\n1 2", 1)
        self.check("2\n1", 1)
        self.check("2\n1 2 3", 1)
        self.check("3\n1 2 3\n1 2", 2)
        self.check("4\n1 2 3 4\n1 2 3 4 5", 2)
        self.check("4\n1 2 3 4\n1 2 3", 2)
        self.check("4\n" + " ".join(["7"] * 490), 1)

    def test_too_many_rows(self):
        for kinds, row in [("1", "\n5"), ("4", "\n1 -2 3 0")]:
            self.assertEqual(len(parse_load(kinds + row * 24)[1]), 24)
            for many in (25, 26, 30, 48):
                self.check(kinds + row * many, 25)
            self.check(kinds + row * 24 + "\n", 25)
            self.check(kinds + row * 24 + "\nx", 25)
            self.check(kinds + row * 24 + "\nx" + row, 25)
            self.check(kinds + row * 25 + "\nx", 25)
            self.check(kinds + row * 25 + "\n", 25)
            for ahead in (0, 1, 22, 23):
                text = kinds + row * ahead + "\n05" + row * (30 - ahead)
                self.check(text, ahead + 1)

    def test_the_first_line_that_is_wrong(self):
        self.check("5\nx\n05", 0)
        self.check("1\n5\nx\n05\n", 2)
        self.check("2\n1 2\n1\n1 2 3\n1000001 0", 2)
        self.check("1\n1000001\nx", 1)

    def test_other_line_ends_and_signs(self):
        for end in ("\r", "\r\n", "\n\r", "\x0b", "\x0c", "\x1e", "\x85", "\u2028", ";", "\\n"):
            value = "1" + end + "5" + end + "6"
            self.check(value, 0 if not end.startswith("\n") else 1)
            self.check("1\n5" + end + "6", 1 if not end.startswith("\n") else 2)

    def test_what_is_passed_stays_as_it_was(self):
        for value in [["1", ["5"]], {"1": ["5"]}, (1, [(5,)]), ([], {})]:
            before = copy.deepcopy(value)
            self.check(value, None)
            self.assertEqual(value, before)
            self.assertEqual(repr(value), repr(before))

    def test_equal_calls_get_equal_results(self):
        first = [parse_load("1\n5\n-5"), load_text(F)]
        self.check("1\n5\nx", 2)
        self.assertEqual(parse_load("2\n1 1"), (2, ((1, 1),)))
        self.assertEqual([parse_load("1\n5\n-5"), load_text(F)], first)
        self.check("1\n5\nx", 2)

    def test_each_call_at_the_bounds_is_quick(self):
        load = (4, ((-MOST,) * 4,) * 24)
        self.assertLess(drawn.seconds(load_text, load), drawn.SECONDS)
        self.assertLess(drawn.seconds(parse_load, load_text(load)), drawn.SECONDS)
        self.assertLess(drawn.seconds(drawn.caught, parse_load, "1\n" + "9" * 998), drawn.SECONDS)


class Examples(unittest.TestCase):
    def test_those_of_the_document(self):
        self.assertEqual(load_text(E), "2\n3 0\n-1 2\n-2 -2")
        self.assertEqual(parse_load("1"), (1, ()))
        self.assertEqual(parse_load("1\n-5"), (1, ((-5,),)))
        error = drawn.caught(parse_load, "1\n05")
        self.assertIs(type(error), BadText)
        self.assertEqual(error.line, 1)


if __name__ == "__main__":
    unittest.main()
