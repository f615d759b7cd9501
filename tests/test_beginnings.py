"""A6, with the words of A4: sizes, even loads, beginnings and heights; A2 (g) of an order turned about."""

import random
import unittest

import drawn
from drawn import E, F, MOST, orders
from nearnought import beginnings
from nearnought.beginnings import begins, height, is_even, sign_begins, sign_height, size

NAMES = ("size", "is_even", "begins", "height", "sign_begins", "sign_height")


def own_size(load):
    greatest = 0
    for row in load[1]:
        for item in row:
            greatest = max(greatest, item, -item)
    return greatest


def own_begins(load, places, factors):
    """The sums of the first k of the rows at these places, each times its factor, told kind by kind."""
    kinds, rows = load
    return tuple(
        tuple(
            sum(factor * rows[place][kind] for place, factor in list(zip(places, factors))[:k])
            for kind in range(kinds)
        )
        for k in range(len(places) + 1)
    )


def own_height(totals):
    return max(max(abs(item) for item in total) for total in totals)


def some_signs(rng, many):
    found = [(1,) * many, (-1,) * many]
    for _ in range(2):
        found.append(tuple(rng.choice((1, -1)) for _ in range(many)))
    return found


class Beginnings(unittest.TestCase):
    def test_they_are_defined_in_their_module(self):
        for name in NAMES:
            self.assertEqual(getattr(beginnings, name).__module__, "nearnought.beginnings")

    def test_size(self):
        for load in drawn.loads(1):
            with self.subTest(drawn.shown(load)):
                self.assertEqual(size(load), own_size(load))
                self.assertIs(type(size(load)), int)
                self.assertEqual(size(load=load), own_size(load))

    def test_size_of_a_few(self):
        for load, expected in [
            ((1, ()), 0), ((4, ()), 0), ((2, ((0, 0),)), 0), ((1, ((-7,),)), 7), ((2, ((1, 2), (-3, 2))), 3),
            ((4, ((0, 0, 0, -MOST),)), MOST), ((1, ((MOST,), (-MOST,))), MOST), ((3, ((1, -5, 4),) * 24), 5),
        ]:
            with self.subTest(drawn.shown(load)):
                self.assertEqual(size(load), expected)

    def test_is_even(self):
        for load in drawn.loads(2):
            kinds, rows = load
            expected = all(sum(row[kind] for row in rows) == 0 for kind in range(kinds))
            with self.subTest(drawn.shown(load)):
                self.assertIs(is_even(load), expected)
                self.assertIs(is_even(load=load), expected)

    def test_even_loads_are_even_and_no_longer_with_one_amount_changed(self):
        for kinds, rows in drawn.even_loads(3):
            with self.subTest(drawn.shown((kinds, rows))):
                self.assertIs(is_even((kinds, rows)), True)
                for kind in range(kinds):
                    if rows:
                        changed = list(rows[-1])
                        changed[kind] += 1 if changed[kind] < 0 else -1
                        self.assertIs(is_even((kinds, rows[:-1] + (tuple(changed),))), False)

    def test_is_even_of_a_few(self):
        for load, expected in [
            ((1, ()), True), ((4, ()), True), ((1, ((0,),)), True), ((1, ((1,),)), False), ((2, ((1, -1),)), False),
            ((2, ((1, 0), (-1, 0))), True), ((2, ((1, 0), (0, -1))), False), ((1, ((MOST,),) * 24), False),
            ((1, ((MOST,), (-MOST,)) * 12), True),
        ]:
            with self.subTest(drawn.shown(load)):
                self.assertIs(is_even(load), expected)

    def test_begins_and_height(self):
        rng = random.Random(4)
        for load in drawn.loads(4):
            many = len(load[1])
            for order in orders(rng, many):
                with self.subTest(f"{drawn.shown(load)} {order}"):
                    expected = own_begins(load, order, (1,) * many)
                    self.assertEqual(begins(load, order), expected)
                    self.assertEqual(begins(load=load, order=order), expected)
                    self.assertTrue(drawn.is_plain(begins(load, order)))
                    self.assertEqual(height(load, order), own_height(expected))
                    self.assertEqual(height(load=load, order=order), own_height(expected))
                    self.assertIs(type(height(load, order)), int)

    def test_sign_begins_and_sign_height(self):
        rng = random.Random(5)
        for load in drawn.loads(5):
            many = len(load[1])
            for signs in some_signs(rng, many):
                with self.subTest(f"{drawn.shown(load)} {signs}"):
                    expected = own_begins(load, range(many), signs)
                    self.assertEqual(sign_begins(load, signs), expected)
                    self.assertEqual(sign_begins(load=load, signs=signs), expected)
                    self.assertTrue(drawn.is_plain(sign_begins(load, signs)))
                    self.assertEqual(sign_height(load, signs), own_height(expected))
                    self.assertEqual(sign_height(load=load, signs=signs), own_height(expected))
                    self.assertIs(type(sign_height(load, signs)), int)

    def test_without_rows_there_is_one_nought(self):
        for kinds in range(1, 5):
            load = (kinds, ())
            self.assertEqual(begins(load, ()), ((0,) * kinds,))
            self.assertEqual(sign_begins(load, ()), ((0,) * kinds,))
            self.assertEqual(height(load, ()), 0)
            self.assertEqual(sign_height(load, ()), 0)

    def test_high_beginnings(self):
        load = (4, ((MOST, -MOST, 0, 1),) * 24)
        order = tuple(range(24))
        self.assertEqual(height(load, order), 24 * MOST)
        self.assertEqual(begins(load, order)[24], (24 * MOST, -24 * MOST, 0, 24))
        self.assertEqual(sign_height(load, (-1,) * 24), 24 * MOST)
        self.assertEqual(sign_begins(load, (-1,) * 24)[24], (-24 * MOST, 24 * MOST, 0, -24))
        self.assertEqual(sign_height(load, (1, -1) * 12), MOST)
        even = (1, ((MOST,),) * 12 + ((-MOST,),) * 12)
        self.assertEqual(height(even, order), 12 * MOST)
        self.assertEqual(sign_height(even, (1,) * 12 + (-1,) * 12), 24 * MOST)

    def test_the_height_may_stand_in_the_midst_below_nought_and_in_any_kind(self):
        load = (3, ((1, 0, 0), (0, -9, 0), (0, 9, 1), (-1, 0, -1)))
        self.assertEqual(height(load, (0, 1, 2, 3)), 9)
        self.assertEqual(height(load, (0, 2, 1, 3)), 9)
        self.assertEqual(sign_height(load, (1, 1, -1, 1)), 18)

    def test_rows_are_taken_in_the_order_and_signs_stand_by_rows(self):
        load = (1, ((1,), (10,), (100,)))
        self.assertEqual(begins(load, (1, 2, 0)), ((0,), (10,), (110,), (111,)))
        self.assertEqual(sign_begins(load, (-1, 1, -1)), ((0,), (-1,), (9,), (-91,)))

    def test_an_order_turned_about_has_the_same_height_for_an_even_load(self):
        rng = random.Random(6)
        for load in drawn.even_loads(6):
            for order in orders(rng, len(load[1])):
                with self.subTest(f"{drawn.shown(load)} {order}"):
                    self.assertEqual(height(load, order), height(load, order[::-1]))

    def test_equal_calls_get_equal_results(self):
        first = [begins(E, (2, 0, 1)), sign_begins(F, (1, 1, -1, 1, -1)), size(F), is_even(E)]
        begins(F, (4, 3, 2, 1, 0))
        sign_height(E, (-1, 1, 1))
        again = [begins(E, (2, 0, 1)), sign_begins(F, (1, 1, -1, 1, -1)), size(F), is_even(E)]
        self.assertEqual(first, again)

    def test_each_call_at_the_bounds_is_quick(self):
        load = (4, ((MOST, -MOST, MOST, -MOST),) * 24)
        order, signs = tuple(range(24)), (1, -1) * 12
        for function, more in [
            (size, ()), (is_even, ()), (begins, (order,)), (height, (order,)),
            (sign_begins, (signs,)), (sign_height, (signs,)),
        ]:
            self.assertLess(drawn.seconds(function, load, *more), drawn.SECONDS)


class Examples(unittest.TestCase):
    def test_those_of_the_document(self):
        self.assertEqual([is_even(E), is_even(F), size(F)], [True, True, 3])
        self.assertEqual(begins(E, (2, 0, 1)), ((0, 0), (-2, -2), (1, -2), (0, 0)))
        self.assertEqual(height(E, (2, 0, 1)), 2)
        self.assertEqual(height(F, (0, 1, 2, 3, 4)), 6)
        self.assertEqual(height(F, (0, 3, 1, 4, 2)), 2)
        self.assertEqual(sign_begins(E, (1, 1, -1)), ((0, 0), (3, 0), (2, 2), (4, 4)))
        self.assertEqual(sign_height(E, (1, 1, -1)), 4)


if __name__ == "__main__":
    unittest.main()
