"""A3, A4 and A5: what a row, a load, an order and signs are."""

import copy
import unittest

from nearnought import forms
from nearnought.forms import is_order, is_signs, load_error

E = (2, ((3, 0), (-1, 2), (-2, -2)))
F = (1, ((2,), (2,), (2,), (-3,), (-3,)))
EMPTY = (3, ())
ONE = (1, ((5,),))
FULL = (2, ((1, -1),) * 24)
MOST = 10 ** 6
HUGE = 10 ** 399


def no_integers():
    """Values that are no integer from anywhere, True and False among them."""
    return [None, True, False, "", "1", (), (1,), [], [1], {}, {1: 1}, 1.0, -1.0, 0.0]


class LoadError(unittest.TestCase):
    def check(self, value, expected):
        with self.subTest(repr(value)[:100]):
            found = load_error(value)
            self.assertEqual(found, expected)
            if expected is not None:
                self.assertIs(type(found), tuple)
                self.assertIsNot(type(found[0]), bool)
            self.assertEqual(load_error(value=value), expected)

    def test_it_is_defined_in_its_module(self):
        for name in ("load_error", "is_order", "is_signs"):
            self.assertEqual(getattr(forms, name).__module__, "nearnought.forms")

    def test_none_for_loads(self):
        for load in (E, F, EMPTY, ONE, FULL):
            self.check(load, None)

    def test_none_for_one_to_four_kinds(self):
        for kinds in (1, 2, 3, 4):
            self.check((kinds, ()), None)
            self.check((kinds, (tuple(range(kinds)),)), None)
            self.check((kinds, ((0,) * kinds, (-9,) * kinds, (0,) * kinds)), None)

    def test_none_for_up_to_24_rows(self):
        for many in range(25):
            self.check((1, tuple((k,) for k in range(many))), None)
        self.check((4, ((1, 2, 3, 4),) * 24), None)

    def test_none_for_rows_that_are_equal_or_uneven(self):
        self.check((1, ((7,), (7,), (7,))), None)

    def test_none_for_amounts_just_within_the_bound(self):
        self.check((1, ((MOST,), (-MOST,))), None)
        self.check((4, ((MOST, -MOST, MOST, -MOST),)), None)

    def test_load_for_what_is_no_pair(self):
        for value in no_integers() + [
            0, 1, HUGE, "ab", ((1,),), (1,), (1, (), ()), (1, (), None), E + ((),),
            [1, ()], [2, ((1, 1),)], {1: (), 2: ()}, {"kinds": 1, "rows": ()}, object(),
            (1, 2, 3, 4), ((1,), (2,), (3,)),
        ]:
            self.check(value, (None, "load"))

    def test_kinds_for_what_is_no_number_of_kinds(self):
        for kinds in no_integers() + [0, 5, -1, -4, 6, 24, HUGE, -HUGE, "2", (2,), [2]]:
            self.check((kinds, ()), (None, "kinds"))
            self.check((kinds, ((1,),)), (None, "kinds"))

    def test_rows_for_what_is_no_tuple_of_rows(self):
        for rows in no_integers() + [
            1, 24, HUGE, [(1,)], [[1]], {0: (1,)}, "(1,)", object(),
        ]:
            if not isinstance(rows, tuple):
                self.check((1, rows), (None, "rows"))

    def test_rows_for_too_many(self):
        for many in (25, 26, 48, 3000):
            self.check((1, ((1,),) * many), (None, "rows"))
        self.check((1, [(1,)] * 25), (None, "rows"))

    def test_row_for_one_of_another_length(self):
        for row in ((), (1,), (1, 2, 3), (1, 2, 3, 4), (1,) * 3000):
            self.check((2, (row,)), (0, "row"))
        self.check((1, ((),)), (0, "row"))
        self.check((4, ((1, 2, 3),)), (0, "row"))
        self.check((4, ((1, 2, 3, 4, 5),)), (0, "row"))

    def test_row_for_what_is_no_tuple(self):
        for row in [None, True, 1, 0, HUGE, "1", "ab", "a", [1], [], {}, {0: 1}, 1.0]:
            self.check((1, (row,)), (0, "row"))
        for row in [[1, 2], "12", {1: 1, 2: 2}, None]:
            self.check((2, (row,)), (0, "row"))

    def test_row_for_amounts_just_beyond_the_bound(self):
        for amount in (MOST + 1, -MOST - 1, 2 * MOST, HUGE, -HUGE):
            self.check((1, ((amount,),)), (0, "row"))
            for place in range(4):
                row = (0,) * place + (amount,) + (0,) * (3 - place)
                self.check((4, (row,)), (0, "row"))

    def test_row_for_amounts_that_are_no_integers(self):
        for amount in no_integers() + [object(), "MAX"]:
            self.check((1, ((amount,),)), (0, "row"))
            for place in range(3):
                row = (1,) * place + (amount,) + (1,) * (2 - place)
                self.check((3, (row,)), (0, "row"))

    def test_row_with_the_index_of_each_place(self):
        for many in (1, 2, 23, 24):
            for index in range(many):
                rows = ((1,),) * index + ((True,),) + ((1,),) * (many - index - 1)
                self.check((1, rows), (index, "row"))

    def test_the_first_row_that_is_none(self):
        self.check((1, ((1,), (1, 2), (MOST + 1,), [1])), (1, "row"))
        self.check((1, ((1,), (2,), [3], (1, 2))), (2, "row"))
        self.check((2, ((1, 1), (1, MOST + 1), (1,))), (1, "row"))
        self.check((2, ((1, 1), (1, 1), (1, "1"), None, None)), (2, "row"))

    def test_the_first_one_told_of_several(self):
        self.check((0, [], ()), (None, "load"))
        self.check([0, []], (None, "load"))
        self.check((0, []), (None, "kinds"))
        self.check((5, ((1, 2),) * 25), (None, "kinds"))
        self.check((True, ((1,), [1])), (None, "kinds"))
        self.check(("1", None), (None, "kinds"))
        self.check((1, ((1, 2),) * 25), (None, "rows"))
        self.check((1, [(1, 2)]), (None, "rows"))
        self.check((1, ((1,),) * 24 + ([],)), (None, "rows"))

    def test_kinds_that_stand_for_the_length_of_a_row_only_as_integers(self):
        self.check((True, ((1,),)), (None, "kinds"))
        self.check((1.0, ((1,),)), (None, "kinds"))

    def test_values_that_are_deep_or_long(self):
        deep = ()
        for _ in range(400):
            deep = (1, (deep,))
        self.check(deep, (0, "row"))
        self.check((1,) * 3000, (None, "load"))
        self.check("x\n" * 500, (None, "load"))

    def test_what_is_passed_stays_as_it_was(self):
        for value in [
            [2, [[3, 0], [1, 1]]], (2, [[3, 0], [1, 1]]), (2, ([3, 0], [1, 1])),
            (1, ((3,), [1])), ([2, 1], ((1,),)), (1, (([2, 1],), {2: [3]})),
            {"kinds": [1], "rows": []}, (1, [(1,)] * 25), E, F, EMPTY,
        ]:
            with self.subTest(repr(value)[:100]):
                before = copy.deepcopy(value)
                first = load_error(value)
                self.assertEqual(repr(value), repr(before))
                self.assertEqual(load_error(value), first)


class Orders(unittest.TestCase):
    def check(self, load, value, expected):
        with self.subTest(f"{load!r:.60} {value!r:.100}"):
            self.assertIs(is_order(load, value), expected)
            self.assertIs(is_order(load=load, value=value), expected)

    def test_true_for_orders(self):
        for order in ((0, 1, 2), (0, 2, 1), (1, 0, 2), (1, 2, 0), (2, 0, 1), (2, 1, 0)):
            self.check(E, order, True)
        self.check(F, (4, 2, 0, 1, 3), True)
        self.check(ONE, (0,), True)
        self.check(FULL, tuple(range(24)), True)
        self.check(FULL, tuple(range(23, -1, -1)), True)

    def test_the_load_without_rows(self):
        self.check(EMPTY, (), True)
        for value in [(0,), (1,), (-1,), (None,), ((),), [], "", None, {}, 0, False]:
            self.check(EMPTY, value, False)

    def test_false_for_too_short_or_too_long_ones(self):
        for value in [(), (0,), (0, 1), (1, 2), (0, 1, 2, 3), (0, 1, 2, 2), (0, 1, 2, None)]:
            self.check(E, value, False)
        self.check(ONE, (), False)
        self.check(ONE, (0, 0), False)
        self.check(ONE, (0, 1), False)
        self.check(FULL, tuple(range(23)), False)
        self.check(FULL, tuple(range(25)), False)

    def test_false_for_an_index_twice(self):
        for value in [(0, 0, 1), (0, 1, 0), (1, 0, 0), (2, 1, 2), (1, 1, 1), (0, 0, 0)]:
            self.check(E, value, False)

    def test_false_for_an_index_below_nought_or_too_great(self):
        for value in [
            (-1, 0, 1), (0, 1, -1), (0, -2, 1), (-1, -2, -3), (0, 1, 3), (3, 0, 1),
            (1, 2, 3), (0, 1, HUGE), (0, 1, -HUGE),
        ]:
            self.check(E, value, False)
        self.check(ONE, (1,), False)
        self.check(ONE, (-1,), False)

    def test_false_for_true_and_false_in_the_place_of_indexes(self):
        for value in [(0, True, 2), (False, 1, 2), (False, True, 2), (2, True, 0)]:
            self.check(E, value, False)
        self.check(ONE, (False,), False)

    def test_false_for_items_that_are_no_integers(self):
        for item in no_integers() + ["0", [0], (0,), 2.0]:
            for place in range(3):
                value = [0, 1, 2]
                value[place] = item
                self.check(E, tuple(value), False)

    def test_false_for_what_is_no_tuple(self):
        for value in no_integers() + [
            0, 3, HUGE, [0, 1, 2], [2, 0, 1], "012", {0: 0, 1: 1, 2: 2}, [(0, 1, 2)],
            ((0, 1, 2),), object(),
        ]:
            self.check(E, value, False)

    def test_what_is_passed_stays_as_it_was(self):
        for value in [[2, 0, 1], (2, [0], 1), ([1, 0], {2: [1]}, 0), (2, 0, 1), {2: [0]}]:
            with self.subTest(repr(value)):
                before = copy.deepcopy(value)
                first = is_order(E, value)
                self.assertEqual(repr(value), repr(before))
                self.assertIs(is_order(E, value), first)


class Signs(unittest.TestCase):
    def check(self, load, value, expected):
        with self.subTest(f"{load!r:.60} {value!r:.100}"):
            self.assertIs(is_signs(load, value), expected)
            self.assertIs(is_signs(load=load, value=value), expected)

    def test_true_for_signs(self):
        for a in (1, -1):
            for b in (1, -1):
                for c in (1, -1):
                    self.check(E, (a, b, c), True)
        self.check(ONE, (1,), True)
        self.check(ONE, (-1,), True)
        self.check(FULL, (1,) * 24, True)
        self.check(FULL, (-1, 1) * 12, True)

    def test_the_load_without_rows(self):
        self.check(EMPTY, (), True)
        for value in [(1,), (-1,), (0,), (None,), ((),), [], "", None, {}, 0, False]:
            self.check(EMPTY, value, False)

    def test_false_for_too_short_or_too_long_ones(self):
        for value in [(), (1,), (1, -1), (1, -1, 1, -1), (1, 1, 1, None)]:
            self.check(E, value, False)
        self.check(ONE, (), False)
        self.check(ONE, (1, 1), False)
        self.check(FULL, (1,) * 23, False)
        self.check(FULL, (1,) * 25, False)

    def test_false_for_other_items(self):
        for item in no_integers() + [
            0, 2, -2, 3, HUGE, -HUGE, "-1", "+", [1], (-1,), (1,), object(),
        ]:
            for place in range(3):
                value = [1, -1, 1]
                value[place] = item
                self.check(E, tuple(value), False)
            self.check(ONE, (item,), False)

    def test_false_for_what_is_no_tuple(self):
        for value in no_integers() + [
            1, -1, 3, [1, -1, 1], [1, 1, 1], "111", {1: 1, -1: 1, 2: 1}, ((1, 1, 1),), object(),
        ]:
            self.check(E, value, False)

    def test_what_is_passed_stays_as_it_was(self):
        for value in [[1, -1, 1], (1, [-1], 1), ([1, -1], {2: [1]}, 1), (1, -1, 1), {1: [0]}]:
            with self.subTest(repr(value)):
                before = copy.deepcopy(value)
                first = is_signs(E, value)
                self.assertEqual(repr(value), repr(before))
                self.assertIs(is_signs(E, value), first)


class Examples(unittest.TestCase):
    def test_those_of_the_document(self):
        self.assertIsNone(load_error(E))
        self.assertEqual(load_error((2, ((1,),))), (0, "row"))
        self.assertIs(is_order(E, (2, 0, 1)), True)
        self.assertIs(is_signs(E, (1, -1, True)), False)


if __name__ == "__main__":
    unittest.main()
