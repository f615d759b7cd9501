"""D1, D2 and D3: the best orders of short loads, their numbers, and bars; A2 (c) and (g)."""

import copy
import itertools
import math
import random
import unittest

import drawn
from drawn import E, F, MOST
from nearnought import bests
from nearnought.beginnings import height as height_of
from nearnought.bests import bar, bar_holds, best_order, count_within, least_height, number_of, order_at
from nearnought.errors import NoNumber, TooMany, Uneven

NAMES = ("least_height", "best_order", "count_within", "order_at", "number_of", "bar", "bar_holds")
UNEVEN = [(1, ((1,),)), (2, ((1, -1), (-1, 0))), (4, ((0, 0, 0, 1),) * 8), (1, ((1,),) * 9), (3, ((0, 0, MOST),) * 24)]
GREAT = 10 ** 9


def own_heights(load):
    """The height of each order, the orders in ascending order."""
    kinds, rows = load
    found = {}
    for order in itertools.permutations(range(len(rows))):
        total, highest = [0] * kinds, 0
        for index in order:
            total = [a + b for a, b in zip(total, rows[index])]
            highest = max([highest] + [abs(item) for item in total])
        found[order] = highest
    return found


def some_heights(heights):
    """Heights below, at and above the least one."""
    known = sorted(set(heights.values()))
    found = {0, known[0], known[0] + 1, max(known[0] - 1, 0), known[-1], max(known[-1] - 1, 0), GREAT}
    return sorted(found | {known[len(known) // 2]})


def total_size(load, some):
    kinds, rows = load
    return max(abs(sum(rows[index][kind] for index in some)) for kind in range(kinds))


def is_own_bar(load, height, value):
    """Whether the tuple of ascending tuples of indexes is a bar, by the document's words."""
    everything = tuple(range(len(load[1])))
    if any(not one < other for one, other in zip(value, value[1:])):
        return False
    if () not in value or everything in value:
        return False
    for some in value:
        for index in everything:
            if index not in some:
                wider = tuple(sorted(some + (index,)))
                if total_size(load, wider) <= height and wider not in value:
                    return False
    return True


def own_closed(load, height, start):
    """The ascending tuple of (), these tuples, and all that they need in a bar."""
    found = {()} | set(start)
    fresh = list(found)
    while fresh:
        some = fresh.pop()
        for index in range(len(load[1])):
            wider = tuple(sorted(set(some) | {index}))
            if wider not in found and total_size(load, wider) <= height:
                found.add(wider)
                fresh.append(wider)
    return tuple(sorted(found))


def short_loads(seed, most_rows):
    return [load for load in drawn.even_loads(seed, most_rows) if len(load[1]) <= most_rows]


def calls(load, height=0, number=0, value=()):
    """Each of the seven functions with what it takes."""
    order = tuple(range(len(load[1])))
    return [
        (least_height, {"load": load}), (best_order, {"load": load}), (count_within, {"load": load, "height": height}),
        (order_at, {"load": load, "height": height, "number": number}),
        (number_of, {"load": load, "height": height, "order": order}), (bar, {"load": load, "height": height}),
        (bar_holds, {"load": load, "height": height, "value": value}),
    ]


class Orders(unittest.TestCase):
    def test_they_are_defined_in_their_module(self):
        for name in NAMES:
            self.assertEqual(getattr(bests, name).__module__, "nearnought.bests")

    def test_against_all_orders(self):
        for load in short_loads(21, 6):
            heights = own_heights(load)
            least = min(heights.values())
            with self.subTest(drawn.shown(load)):
                self.assertEqual(least_height(load), least)
                self.assertIs(type(least_height(load)), int)
                best = best_order(load)
                self.assertEqual(best, next(order for order in heights if heights[order] == least))
                self.assertTrue(drawn.is_plain(best))
                for height in some_heights(heights):
                    self.numbers(load, height, heights)

    def numbers(self, load, height, heights):
        """Looks at count_within, order_at and number_of for this height."""
        within = [order for order in heights if heights[order] <= height]
        self.assertEqual(count_within(load, height), len(within))
        self.assertIs(type(count_within(load, height)), int)
        for number in sorted({0, 1, len(within) // 2, len(within) - 1}):
            if 0 <= number < len(within):
                self.assertEqual(order_at(load, height, number), within[number])
                self.assertTrue(drawn.is_plain(order_at(load, height, number)))
                self.assertEqual(number_of(load, height, within[number]), number)
        for order in list(heights)[::97] + [order for order in heights if heights[order] > height][:2]:
            number = number_of(load, height, order)
            if heights[order] > height:
                self.assertIsNone(number)
            else:
                self.assertIs(type(number), int)
                self.assertEqual(within[number], order)

    def test_all_numbers(self):
        for load in (E, F, (1, ()), (3, ((0, 0, 0),)), drawn.even_load(random.Random(1), 2, 5, 6)):
            heights = own_heights(load)
            for height in range(max(heights.values()) + 2):
                with self.subTest(f"{drawn.shown(load)} {height}"):
                    within = [order for order in heights if heights[order] <= height]
                    many = count_within(load, height)
                    self.assertEqual([order_at(load, height, number) for number in range(many)], within)
                    self.assertEqual([number_of(load, height, order) for order in within], list(range(many)))
                    for order in heights:
                        if heights[order] > height:
                            self.assertIsNone(number_of(load, height, order))

    def test_seven_and_eight_rows(self):
        rng = random.Random(2)
        for load in drawn.even_loads(22, 8):
            many = len(load[1])
            if many > 6:
                with self.subTest(drawn.shown(load)):
                    least, best = least_height(load), best_order(load)
                    self.assertEqual(height_of(load, best), least)
                    self.assertEqual(order_at(load, least, 0), best)
                    self.assertEqual(number_of(load, least, best), 0)
                    self.assertEqual(count_within(load, GREAT), math.factorial(many))
                    if least > 0:
                        self.assertEqual(count_within(load, least - 1), 0)
                    self.there_and_back(rng, load, least)

    def there_and_back(self, rng, load, least):
        """order_at and number_of lead back to one another, for heights from the least one on."""
        for height in (least, least + least // 4, GREAT):
            within = count_within(load, height)
            numbers = sorted(rng.randrange(within) for _ in range(4))
            orders = [order_at(load, height, number) for number in numbers]
            self.assertEqual(orders, sorted(orders))
            self.assertEqual([number_of(load, height, order) for order in orders], numbers)
            for order in orders:
                self.assertEqual(sorted(order), list(range(len(load[1]))))
                self.assertLessEqual(height_of(load, order), height)

    def test_eight_rows_against_all_orders(self):
        load = drawn.even_load(random.Random(3), 2, 8, 20)
        heights = own_heights(load)
        least = min(heights.values())
        self.assertEqual(least_height(load), least)
        self.assertEqual(best_order(load), next(order for order in heights if heights[order] == least))
        for height in some_heights(heights):
            with self.subTest(height):
                self.numbers(load, height, heights)

    def test_an_order_turned_about_has_the_same_height(self):
        rng = random.Random(4)
        for load in short_loads(24, 8):
            with self.subTest(drawn.shown(load)):
                least = least_height(load)
                self.assertEqual(height_of(load, best_order(load)[::-1]), least)
                self.assertIsNotNone(number_of(load, least, best_order(load)[::-1]))
                order = tuple(rng.sample(range(len(load[1])), len(load[1])))
                for height in (least, 2 * least):
                    one, other = number_of(load, height, order), number_of(load, height, order[::-1])
                    self.assertIs(one is None, other is None)

    def test_without_rows_and_with_one(self):
        for kinds in range(1, 5):
            for load, order in [((kinds, ()), ()), ((kinds, ((0,) * kinds,)), (0,))]:
                self.assertEqual(least_height(load), 0)
                self.assertEqual(best_order(load), order)
                for height in (0, 1, GREAT):
                    self.assertEqual(count_within(load, height), 1)
                    self.assertEqual(order_at(load, height, 0), order)
                    self.assertEqual(number_of(load, height, order), 0)
                    self.assertIsNone(bar(load, height))
                    self.assertIs(bar_holds(load, height, ()), False)
                    error = drawn.caught(order_at, load, height, 1)
                    self.assertIs(type(error), NoNumber)


class Numbers(unittest.TestCase):
    def check(self, load, height, number):
        with self.subTest(f"{drawn.shown(load)} {height} {number!r:.100}"):
            for error in (
                drawn.caught(order_at, load, height, number),
                drawn.caught(order_at, load=load, height=height, number=number),
            ):
                self.assertIs(type(error), NoNumber)
                self.assertIs(error.number, number)

    def test_no_number(self):
        for load in (E, F, (2, ()), drawn.even_load(random.Random(5), 3, 8, MOST)):
            least = least_height(load)
            for height in (max(least - 1, 0), least, GREAT):
                many = count_within(load, height)
                for number in [many, many + 1, -1, -many - 1, 10 ** 399, -(10 ** 399), (0,), (0, 1), ((),), [0]]:
                    self.check(load, height, number)
                for number in drawn.values():
                    self.check(load, height, number)

    def test_no_number_at_all_below_the_least_height(self):
        self.assertEqual(count_within(E, 1), 0)
        for number in (0, 1, -1):
            self.check(E, 1, number)

    def test_the_number_stays_as_it_was(self):
        for number in ([0, [1]], {"number": [0]}, ([0],)):
            before = copy.deepcopy(number)
            self.check(E, 3, number)
            self.assertEqual(repr(number), repr(before))


class Bars(unittest.TestCase):
    def check(self, load, height, value, expected):
        with self.subTest(f"{drawn.shown(load)} {height} {value!r:.200}"):
            self.assertIs(bar_holds(load, height, value), expected)
            self.assertIs(bar_holds(load=load, height=height, value=value), expected)

    def test_there_is_a_bar_exactly_if_no_order_has_at_most_the_height(self):
        for load in short_loads(25, 8):
            least = least_height(load)
            for height in sorted({0, least // 2, max(least - 1, 0), least, least + 1, GREAT}):
                found = bar(load, height)
                with self.subTest(f"{drawn.shown(load)} {height}"):
                    self.assertIs(found is None, count_within(load, height) > 0)
                    self.assertIs(found is None, height >= least)
                if found is not None:
                    self.assertIs(type(found), tuple)
                    self.assertTrue(drawn.is_plain(found))
                    self.assertTrue(all(type(some) is tuple and some == tuple(sorted(set(some))) for some in found))
                    self.assertTrue(is_own_bar(load, height, found))
                    self.check(load, height, found, True)
                    self.check(load, least, found, False)

    def test_all_tuples_of_tuples_for_a_few_heights(self):
        every = sorted(some for many in range(4) for some in itertools.combinations(range(3), many))
        for load in (E, (1, ((5,), (-2,), (-3,))), (1, ((1,), (-1,), (0,))), (2, ((0, 0), (1, 0), (-1, 0)))):
            held = {}
            for height in range(6):
                held[height] = 0
                for many in range(len(every) + 1):
                    for value in itertools.combinations(every, many):
                        expected = is_own_bar(load, height, value)
                        self.assertIs(bar_holds(load, height, value), expected)
                        held[height] += expected
            with self.subTest(f"{load} {held}"):
                least = least_height(load)
                self.assertEqual([held[height] > 0 for height in held], [height < least for height in held])

    def test_other_right_bars(self):
        rng = random.Random(11)
        found = 0
        for load in short_loads(26, 7):
            many, least = len(load[1]), least_height(load)
            for height in sorted({least // 2, max(least - 1, 0)}):
                for _ in range(3):
                    extra = [tuple(sorted(rng.sample(range(many), rng.randrange(many // 2 + 1)))) for _ in range(2)]
                    value = own_closed(load, height, extra)
                    expected = tuple(range(many)) not in value
                    self.check(load, height, value, expected)
                    if expected and value != bar(load, height):
                        found += 1
                        k = rng.randrange(len(value))
                        less = value[:k] + value[k + 1:]
                        self.check(load, height, less, is_own_bar(load, height, less))
        self.assertGreater(found, 30)

    def test_a_few_right_bars_and_others(self):
        load = (1, ((5,), (-5,), (4,), (-4,)))
        self.assertEqual(bar(load, 3), ((),))
        for value, expected in [
            (((),), True), (((), (0, 3)), True), (((), (0, 1)), True), (((), (0, 1), (0, 3)), True),
            # (0,) needs the two tuples that come to at most 3; what they would lead to comes to 4 and 5.
            (((), (0,), (0, 1), (0, 3)), True), (((), (0,), (0, 1)), False), (((), (0,), (0, 3)), False),
            (((), (0,), (0, 1), (0, 2)), False), (((), (0,)), False),
            # From three rows the fourth leads to the tuple of all indexes.
            (((), (0, 1, 2)), False), (((), (0, 1, 2), (0, 1, 2, 3)), False),
        ]:
            self.check(load, 3, value, expected)

    def test_false_without_a_tuple_that_is_needed(self):
        seven = drawn.even_load(random.Random(6), 2, 7, 9)
        for load, height in [(E, 1), (F, 1), (seven, 3), ((1, ((2,), (3,), (-5,))), 2)]:
            self.assertLess(height, least_height(load))
            value, everything = bar(load, height), tuple(range(len(load[1])))
            for k in range(len(value)):
                less = value[:k] + value[k + 1:]
                self.check(load, height, less, False)
                self.check(load, height, value[:k] + value[k:][::-1], k == len(value) - 1)
            self.check(load, height, value + (everything,), False)
            self.check(load, height, tuple(sorted(value + (everything,))), False)
            self.check(load, height, value + value[-1:], False)
            self.check(load, height, value[:1] + value, False)

    def test_which_tuples_are_needed(self):
        load = (1, ((1,), (9,), (-10,)))
        self.assertEqual(bar(load, 8), ((), (0,)))
        for value, expected in [
            (((), (0,)), True), (((),), False), (((0,),), False), ((), False), (((0,), ()), False),
            (((), (0,), (0, 1, 2)), False), (((), (0,), (1,)), False), (((), (0,), (2,)), False),
            (((), (0,), (0, 2)), False), (((), (0,), (0, 1)), False), (((), (0,), (0,)), False), (((), ()), False),
        ]:
            self.check(load, 8, value, expected)

    def test_false_for_an_index_twice_not_ascending_or_of_no_row(self):
        load = (1, ((1,), (9,), (-10,)))
        for some in [
            (0, 0), (1, 1), (1, 0), (2, 1), (2, 1, 0), (0, 2, 1), (3,), (-1,), (0, 3), (-1, 0), (10 ** 399,),
            (0, 1, 2, 3), (None,), ("0",), (1.0,), ((0,),), ([0],), (True,), (False,), (False, 1), (0, True),
            (1, None), ([],), ({},), [0], [], [1], "0", "", None, True, 0, 1, 1.0, {0: 1}, {},
        ]:
            self.check(load, 8, ((), (0,), some), False)
            self.check(load, 8, ((), some), False)
            self.check(load, 8, (some,), False)
            self.check(load, 8, (some, ()), False)

    def test_false_for_true_and_false_as_indexes(self):
        load = (1, ((1,), (1,), (9,), (-11,)))
        value = bar(load, 8)
        self.assertEqual(value, ((), (0,), (0, 1), (1,)))
        for k, some in enumerate(value):
            for place, index in enumerate(some):
                other = some[:place] + (bool(index),) + some[place + 1:]
                self.check(load, 8, value[:k] + (other,) + value[k + 1:], False)

    def test_false_for_lists(self):
        for load, height in [(E, 1), (F, 1), ((1, ((1,), (9,), (-10,))), 8)]:
            value = bar(load, height)
            self.check(load, height, value, True)
            self.check(load, height, list(value), False)
            self.check(load, height, {some: True for some in value}, False)
            for k, some in enumerate(value):
                self.check(load, height, value[:k] + (list(some),) + value[k + 1:], False)

    def test_false_for_other_values(self):
        for load, height in [(E, 1), (E, 2), (F, 0), (F, 9), ((4, ()), 0), ((1, ((0,),)), 5)]:
            more = [0, 1, -1, (0,), (0, 1), ((0,),), (((),),), ((), ((),)), ((), None), ((), "")]
            for value in drawn.values() + more:
                self.check(load, height, value, False)

    def test_what_is_passed_stays_as_it_was(self):
        for value in [[(), [0]], ([], [0]), ((), [0], {1: [2]}), {"bar": [()]}, ((), [1, 0])]:
            before = copy.deepcopy(value)
            self.check(F, 1, value, False)
            self.check(F, 1, value, False)
            self.assertEqual(repr(value), repr(before))


class Errors(unittest.TestCase):
    def check(self, function, named, kind, field=None, given=None):
        with self.subTest(f"{function.__name__} {named!r:.150}"):
            for error in (drawn.caught(function, **named), drawn.caught(function, *named.values())):
                self.assertIs(type(error), kind)
                if field is not None:
                    self.assertEqual(getattr(error, field), given)

    def test_uneven_ahead_of_all_else(self):
        for load in UNEVEN:
            for number in (0, -1, True, None, "x", 10 ** 9):
                for function, named in calls(load, number=number, value=number):
                    self.check(function, named, Uneven)

    def test_too_many_ahead_of_no_number(self):
        for kinds in range(1, 5):
            for many in (9, 10, 24):
                load = drawn.even_load(random.Random(many), kinds, many, 9)
                for number in (0, -1, True, None, "x", 10 ** 9):
                    for function, named in calls(load, number=number, value=number):
                        self.check(function, named, TooMany, "limit", 8)

    def test_eight_rows_are_not_too_many(self):
        load = drawn.even_load(random.Random(7), 2, 8, 9)
        for function, named in calls(load, height=GREAT):
            self.assertIsNone(drawn.caught(function, **named))


class Together(unittest.TestCase):
    def test_by_name(self):
        for load in (E, F, (2, ())):
            for function, named in calls(load, height=7, value=((),)):
                with self.subTest(function.__name__):
                    self.assertEqual(function(**named), function(*named.values()))

    def test_equal_calls_get_equal_results(self):
        load = drawn.even_load(random.Random(8), 2, 8, 9)
        first = [function(**named) for function, named in calls(load, height=GREAT)] + [bar(load, 3)]
        for other in (E, F, drawn.even_load(random.Random(9), 4, 7, MOST)):
            for function, named in calls(other, height=GREAT):
                function(**named)
        drawn.caught(order_at, load, 0, -1)
        again = [function(**named) for function, named in calls(load, height=GREAT)] + [bar(load, 3)]
        self.assertEqual(first, again)

    def test_each_call_at_the_bounds_is_quick(self):
        for load in (drawn.even_load(random.Random(10), 4, 8, MOST), (4, ((0,) * 4,) * 8)):
            for function, named in calls(load, height=GREAT, number=40319):
                self.assertLess(drawn.seconds(function, *named.values()), drawn.SECONDS)
        load = (1, ((MOST,),) * 4 + ((-MOST,),) * 4)
        self.assertLess(drawn.seconds(bar, load, MOST - 1), drawn.SECONDS)
        every = sorted(some for many in range(8) for some in itertools.combinations(range(8), many))
        self.assertLess(drawn.seconds(bar_holds, load, 0, tuple(every)), drawn.SECONDS)


class Examples(unittest.TestCase):
    def test_those_of_the_document(self):
        self.assertEqual([least_height(E), best_order(E), count_within(E, 2), count_within(E, 3)], [2, (1, 0, 2), 2, 6])
        self.assertEqual(order_at(E, 2, 1), (2, 0, 1))
        self.assertEqual([number_of(E, 3, (2, 0, 1)), number_of(E, 2, (0, 1, 2))], [4, None])
        self.assertEqual([least_height(F), best_order(F)], [2, (0, 3, 1, 4, 2)])
        self.assertIsNone(bar(E, 2))
        self.assertIs(bar_holds(E, 1, ((),)), True)
        self.assertIs(bar_holds(E, 2, ((),)), False)
        self.assertEqual(least_height((3, ())), 0)


if __name__ == "__main__":
    unittest.main()
