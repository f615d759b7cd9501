"""C1 and C2: chains, what holds as one, steady orders and narrowed weights; A2 (a), first sentence."""

import copy
import random
import unittest
from fractions import Fraction

import drawn
from drawn import E, F, MOST, changed
from nearnought import chains
from nearnought.beginnings import height, size
from nearnought.chains import chain, chain_holds, narrowed, steady_order
from nearnought.errors import Uneven

NAMES = ("chain", "chain_holds", "steady_order", "narrowed")
PAIR = (1, ((1,), (-1,)))
NOUGHTS = (1, ((0,), (0,), (0,)))
UNEVEN = [(1, ((1,),)), (4, ((0, 0, 0, 1),)), (2, ((1, -1), (-1, 0))), (1, ((MOST,),) * 24), (2, ((0, 1),) * 9)]


def is_own_fraction(value):
    """Whether value is a fraction from 0 to 1, by the document's words."""
    if type(value) is not tuple or len(value) != 2 or [type(item) for item in value] != [int, int]:
        return False
    top, bottom = value
    if bottom < 1 or not 0 <= top <= bottom:
        return False
    return (Fraction(top, bottom).numerator, Fraction(top, bottom).denominator) == (top, bottom)


def are_own_weights(load, some, weights):
    """Whether these are weights for the rows with these indexes, by the document's words."""
    kinds, rows = load
    if type(weights) is not tuple or len(weights) != len(some):
        return False
    if not all(is_own_fraction(weight) for weight in weights):
        return False
    weights = [Fraction(top, bottom) for top, bottom in weights]
    if sum(weights) != len(some) - kinds:
        return False
    return all(
        sum(weight * rows[index][kind] for weight, index in zip(weights, some)) == 0 for kind in range(kinds)
    )


def is_own_chain(load, value):
    """Whether value is a chain of the load, by the document's words."""
    kinds, rows = load
    order, steps = value
    if type(order) is not tuple or sorted(order) != list(range(len(rows))):
        return False
    if len(rows) <= kinds:
        return steps == ()
    if type(steps) is not tuple or len(steps) != len(rows) - kinds:
        return False
    counts = range(len(rows), kinds, -1)
    return all(are_own_weights(load, order[:k], step) for k, step in zip(counts, steps))


def same(many, kinds):
    """The same weight for each of so many rows."""
    weight = Fraction(many - kinds, many)
    return ((weight.numerator, weight.denominator),) * many


class Chains(unittest.TestCase):
    def test_they_are_defined_in_their_module(self):
        for name in NAMES:
            self.assertEqual(getattr(chains, name).__module__, "nearnought.chains")

    def test_chain_is_one_and_its_order_is_steady(self):
        for load in drawn.even_loads(11):
            with self.subTest(drawn.shown(load)):
                found = chain(load)
                self.assertIs(type(found), tuple)
                self.assertEqual(len(found), 2)
                self.assertTrue(drawn.is_plain(found))
                self.assertTrue(is_own_chain(load, found))
                self.assertLessEqual(height(load, found[0]), load[0] * size(load))
                self.assertIs(chain_holds(load, found), True)
                self.assertIs(chain_holds(load=load, value=found), True)

    def test_the_first_rows_come_to_what_the_weights_tell(self):
        for load in drawn.even_loads(12):
            order, steps = chain(load)
            for step in steps:
                with self.subTest(drawn.shown(load)):
                    for kind in range(load[0]):
                        amounts = [load[1][index][kind] for index in order[:len(step)]]
                        left = sum((1 - Fraction(*weight)) * item for weight, item in zip(step, amounts))
                        self.assertEqual(left, sum(amounts))

    def test_steady_order(self):
        for load in drawn.even_loads(13):
            with self.subTest(drawn.shown(load)):
                order = steady_order(load)
                self.assertIs(type(order), tuple)
                self.assertTrue(drawn.is_plain(order))
                self.assertEqual(sorted(order), list(range(len(load[1]))))
                self.assertLessEqual(height(load, order), load[0] * size(load))
                self.assertEqual(steady_order(load=load), order)

    def test_as_few_rows_as_kinds(self):
        for kinds in range(1, 5):
            for many in range(kinds + 1):
                for load in [(kinds, ((0,) * kinds,) * many), drawn.even_load(random.Random(many), kinds, many, 9)]:
                    with self.subTest(drawn.shown(load)):
                        order, steps = chain(load)
                        self.assertEqual(sorted(order), list(range(many)))
                        self.assertEqual(steps, ())

    def test_by_name(self):
        self.assertEqual(chain(load=F), chain(F))
        self.assertEqual(steady_order(load=F), steady_order(F))
        self.assertEqual(
            narrowed(load=PAIR, some=(0, 1), weights=((1, 2), (1, 2))), narrowed(PAIR, (0, 1), ((1, 2), (1, 2)))
        )

    def test_equal_calls_get_equal_results(self):
        for load in (E, F, drawn.even_load(random.Random(1), 3, 20, MOST), (2, ((0, 0),) * 24)):
            some = tuple(range(len(load[1])))
            weights = same(len(some), load[0])
            first = [chain(load), steady_order(load), narrowed(load, some, weights)]
            chain(drawn.even_load(random.Random(2), 4, 24, MOST))
            narrowed(PAIR, (0, 1), ((1, 2), (1, 2)))
            again = [chain(load), steady_order(load), narrowed(load, some, weights)]
            self.assertEqual(first, again)

    def test_each_call_at_the_bounds_is_quick(self):
        for seed in range(5):
            load = drawn.even_load(random.Random(seed), 4, 24, MOST)
            some = tuple(range(24))
            for function, more in [
                (chain, ()), (steady_order, ()), (chain_holds, (chain(load),)), (narrowed, (some, same(24, 4))),
            ]:
                self.assertLess(drawn.seconds(function, load, *more), drawn.SECONDS)


class NotEven(unittest.TestCase):
    def test_uneven_ahead_of_all_else(self):
        for load in UNEVEN:
            some = tuple(range(len(load[1])))
            for function, more in [(chain, {}), (steady_order, {})] + [
                (chain_holds, {"value": value}) for value in drawn.values() + [(some, ()), ((), ())]
            ] + [(narrowed, {"some": some, "weights": same(len(some), load[0])})]:
                with self.subTest(f"{function.__name__} {drawn.shown(load)}"):
                    for error in (
                        drawn.caught(function, load=load, **more), drawn.caught(function, load, *more.values())
                    ):
                        self.assertIs(type(error), Uneven)

    def test_narrowed_of_even_rows_in_a_load_that_is_not(self):
        error = drawn.caught(narrowed, (1, ((1,), (-1,), (5,))), (0, 1), ((1, 2), (1, 2)))
        self.assertIs(type(error), Uneven)


class Holds(unittest.TestCase):
    def check(self, load, value, expected):
        with self.subTest(f"{drawn.shown(load)} {value!r:.200}"):
            self.assertIs(chain_holds(load, value), expected)
            self.assertIs(chain_holds(load=load, value=value), expected)

    def test_true_for_other_chains(self):
        self.check(PAIR, ((0, 1), (((1, 2), (1, 2)),)), True)
        self.check(PAIR, ((1, 0), (((1, 2), (1, 2)),)), True)
        self.check((1, ((0,),)), ((0,), ()), True)
        for kinds in range(1, 5):
            self.check((kinds, ()), ((), ()), True)
            self.check((kinds, ((0,) * kinds,) * kinds), (tuple(reversed(range(kinds))), ()), True)

    def test_true_for_the_same_weights_for_all(self):
        for kinds in range(1, 5):
            for many in range(kinds + 1, 25):
                load = (kinds, ((0,) * kinds,) * many)
                steps = tuple(same(k, kinds) for k in range(many, kinds, -1))
                self.check(load, (tuple(range(many)), steps), True)
                self.check(load, (tuple(reversed(range(many))), steps), True)

    def test_true_for_weights_of_0_and_1(self):
        for kinds in range(1, 5):
            for many in range(kinds + 1, 25):
                load = (kinds, ((0,) * kinds,) * many)
                ahead = tuple(((1, 1),) * (k - kinds) + ((0, 1),) * kinds for k in range(many, kinds, -1))
                behind = tuple(((0, 1),) * kinds + ((1, 1),) * (k - kinds) for k in range(many, kinds, -1))
                self.check(load, (tuple(range(many)), ahead), True)
                self.check(load, (tuple(range(many)), behind), True)
        three = (1, ((1,), (-1,), (0,)))
        self.check(three, ((2, 0, 1), (((0, 1), (1, 1), (1, 1)), ((1, 1), (0, 1)))), True)
        self.check(three, ((2, 0, 1), (((2, 3), (2, 3), (2, 3)), ((1, 1), (0, 1)))), True)
        self.check(three, ((2, 0, 1), (((2, 3), (2, 3), (2, 3)), ((0, 1), (1, 1)))), False)

    def test_false_for_one_weight_otherwise(self):
        for load in (F, NOUGHTS, PAIR, drawn.even_load(random.Random(3), 2, 9, 5), (3, ((0, 0, 0),) * 6)):
            order, steps = chain(load)
            for k, step in enumerate(steps):
                for place, weight in enumerate(step):
                    top, bottom = weight
                    for other in [
                        (0, 1), (1, 1), (1, 2), (1, 3), (5, 7), (-1, 2), (3, 2), (2, 1), (-1, 1), (0, 2), (2, 2),
                        (10 ** 399, 10 ** 399 + 1), (top, bottom + 1), (2 * top, 2 * bottom), (-top, -bottom),
                        (3 * top, 3 * bottom), (0, 0), (1, 0), (top, -bottom), [top, bottom], (top,),
                        (top, bottom, 1), (), top, None, "1/2", (None, 1), ("0", "1"), (1.0, 1), (float(top), bottom),
                        {0: top, 1: bottom}, True, False,
                    ]:
                        # 1.0 equals 1, but is no integer.
                        if repr(other) != repr(weight):
                            value = (order, changed(steps, k, changed(step, place, other)))
                            self.check(load, value, False)

    def test_false_for_true_and_false_as_numbers(self):
        steps = (((0, 1), (1, 1), (1, 1)), ((0, 1), (1, 1)))
        self.check(NOUGHTS, ((0, 1, 2), steps), True)
        for k, step in enumerate(steps):
            for place, (top, bottom) in enumerate(step):
                for other in ((bool(top), bottom), (top, True), (bool(top), True)):
                    self.check(NOUGHTS, ((0, 1, 2), changed(steps, k, changed(step, place, other))), False)
        for order in ((False, 1, 2), (0, True, 2), (False, True, 2)):
            self.check(NOUGHTS, (order, steps), False)

    def test_false_for_weights_below_0_or_above_1_though_sum_and_nought_are_right(self):
        self.check(NOUGHTS, ((0, 1, 2), (((-1, 1), (2, 1), (1, 1)), ((0, 1), (1, 1)))), False)
        self.check(NOUGHTS, ((0, 1, 2), (((1, 2), (3, 2), (0, 1)), ((0, 1), (1, 1)))), False)
        self.check(NOUGHTS, ((0, 1, 2), (((1, 1), (1, 1), (0, 1)), ((-1, 2), (3, 2)))), False)

    def test_false_for_weights_that_are_not_in_lowest_form_though_sum_and_nought_are_right(self):
        self.check(PAIR, ((0, 1), (((2, 4), (2, 4)),)), False)
        self.check(PAIR, ((0, 1), (((1, 2), (2, 4)),)), False)
        self.check(PAIR, ((0, 1), (((-1, -2), (1, 2)),)), False)
        self.check(NOUGHTS, ((0, 1, 2), (((2, 2), (1, 1), (0, 1)), ((0, 1), (1, 1)))), False)
        self.check(NOUGHTS, ((0, 1, 2), (((1, 1), (1, 1), (0, 1)), ((0, 5), (1, 1)))), False)

    def test_false_for_a_wrong_sum_though_the_rows_come_to_a_nought(self):
        for last in [((0, 1), (0, 1)), ((1, 1), (1, 1)), ((1, 2), (1, 3)), ((1, 10 ** 300), (1, 1))]:
            self.check(NOUGHTS, ((0, 1, 2), (((1, 1), (1, 1), (0, 1)), last)), False)
        self.check(PAIR, ((0, 1), (((1, 1), (1, 1)),)), False)
        self.check(PAIR, ((0, 1), (((0, 1), (0, 1)),)), False)
        self.check(PAIR, ((0, 1), (((1, 3), (1, 3)),)), False)

    def test_false_for_rows_that_come_to_no_nought_though_the_sum_is_right(self):
        self.check(PAIR, ((1, 0), (((1, 1), (0, 1)),)), False)
        self.check(PAIR, ((0, 1), (((1, 3), (2, 3)),)), False)
        two = (2, ((0, 0), (0, 1), (0, -1)))
        self.check(two, ((0, 1, 2), (((0, 1), (1, 2), (1, 2)),)), True)
        self.check(two, ((0, 1, 2), (((0, 1), (1, 1), (0, 1)),)), False)
        self.check(two, ((0, 1, 2), (((1, 1), (0, 1), (0, 1)),)), True)

    def test_false_for_steps_too_few_too_many_or_in_another_order(self):
        for load in (F, NOUGHTS, PAIR, drawn.even_load(random.Random(4), 2, 9, 5)):
            order, steps = chain(load)
            for other in [
                (), steps[1:], steps[:-1], steps + steps[-1:], steps + ((),), ((),) + steps, steps + (None,),
                steps[::-1], steps[:1] + steps, (steps,), steps[1:] + steps[:1], steps[0],
            ]:
                if other != steps:
                    self.check(load, (order, other), False)
        self.check((1, ((0,),)), ((0,), ((),)), False)
        self.check((1, ((0,),)), ((0,), (((0, 1),),)), False)
        self.check((2, ()), ((), ((),)), False)
        self.check((1, ((0,), (0,))), ((0, 1), ()), False)

    def test_false_for_weights_in_the_order_of_the_indexes(self):
        load = (1, ((2,), (-1,), (-1,)))
        self.check(load, ((1, 0, 2), (((2, 3), (2, 3), (2, 3)), ((2, 3), (1, 3)))), True)
        self.check(load, ((1, 0, 2), (((2, 3), (2, 3), (2, 3)), ((1, 3), (2, 3)))), False)
        self.check(load, ((0, 1, 2), (((2, 3), (2, 3), (2, 3)), ((1, 3), (2, 3)))), True)

    def test_false_for_a_step_with_a_weight_too_few_or_too_many(self):
        order, steps = chain(F)
        for k, step in enumerate(steps):
            for other in (step[1:], step[:-1], step + ((0, 1),), ((0, 1),) + step, (), (step,)):
                self.check(F, (order, changed(steps, k, other)), False)

    def test_false_for_what_is_no_order(self):
        for load in (F, NOUGHTS, drawn.even_load(random.Random(5), 2, 9, 5)):
            order, steps = chain(load)
            many = len(order)
            for other in [
                (), order[1:], order[:-1], order + (0,), order + (many,), (0,) * many, changed(order, 0, many),
                changed(order, 0, -1), changed(order, 0, order[1]), changed(order, 0, None), list(order), "012", None,
                {k: k for k in order}, 0, (order,), tuple(str(k) for k in order), tuple(float(k) for k in order),
            ]:
                self.check(load, (other, steps), False)

    def test_false_for_lists_in_the_place_of_tuples(self):
        order, steps = chain(F)
        self.check(F, [order, steps], False)
        self.check(F, (list(order), steps), False)
        self.check(F, (order, list(steps)), False)
        for k, step in enumerate(steps):
            self.check(F, (order, changed(steps, k, list(step))), False)
            for place, weight in enumerate(step):
                self.check(F, (order, changed(steps, k, changed(step, place, list(weight)))), False)
        self.check((2, ()), ((), []), False)
        self.check((2, ()), ([], ()), False)
        self.check((2, ()), [(), ()], False)

    def test_false_for_other_values(self):
        order, steps = chain(F)
        for value in drawn.values() + [
            0, 1, (), (order,), (order, steps, ()), (steps, order), order, steps, ((order, steps),), (0, 1),
            (order, None), {"order": order, "steps": steps}, {0: order, 1: steps},
            (order, {}), (order, "steps"), ((), ()),
        ]:
            self.check(F, value, False)
            if value != ((), ()):
                self.check((3, ()), value, False)

    def test_great_bottoms(self):
        great = 10 ** 399
        load = (1, ((0,),) * 4)
        first = ((1, great), (great - 1, great), (1, 1), (1, 1))
        self.check(load, ((0, 1, 2, 3), (first, ((1, 1), (1, 1), (0, 1)), ((1, great), (great - 1, great)))), True)
        self.check(load, ((0, 1, 2, 3), (first, ((1, 1), (1, 1), (0, 1)), ((1, great), (1, great - 1)))), False)
        self.check(load, ((0, 1, 2, 3), (first, ((1, 1), (1, 1), (1, great)), ((1, great), (great - 1, great)))), False)

    def test_what_is_passed_stays_as_it_was(self):
        order, steps = chain(F)
        for value in [
            [list(order), [list(step) for step in steps]], (order, [list(step) for step in steps]),
            ([0, 1], {"steps": [1]}), {"order": [0]}, (order, (list(steps[0]),) + steps[1:]),
        ]:
            before = copy.deepcopy(value)
            self.check(F, value, False)
            self.check(F, value, False)
            self.assertEqual(repr(value), repr(before))


class Narrowed(unittest.TestCase):
    def check(self, load, some, weights):
        """Narrows once, and returns the rest of some with their weights."""
        self.assertTrue(are_own_weights(load, some, weights))
        found = narrowed(load, some, weights)
        self.assertIs(type(found), tuple)
        self.assertEqual(len(found), 2)
        self.assertTrue(drawn.is_plain(found))
        index, others = found
        self.assertIn(index, some)
        rest = tuple(other for other in some if other != index)
        self.assertTrue(are_own_weights(load, rest, others))
        self.assertEqual(narrowed(load=load, some=some, weights=weights), found)
        return rest, others

    def test_again_and_again(self):
        for load in drawn.even_loads(14):
            kinds, rows = load
            some = tuple(range(len(rows)))
            if len(some) > kinds:
                with self.subTest(drawn.shown(load)):
                    weights = same(len(some), kinds)
                    while len(some) > kinds:
                        some, weights = self.check(load, some, weights)
                    self.assertEqual(weights, ((0, 1),) * kinds)

    def test_some_of_the_rows_that_do_not_come_to_a_nought(self):
        load = (1, ((2,), (-1,), (5,), (-3,), (-3,)))
        for some, weights in [
            ((0, 1), ((1, 3), (2, 3))), ((1, 2), ((5, 6), (1, 6))), ((2, 3, 4), ((3, 4), (1, 1), (1, 4))),
            ((0, 1, 3), ((1, 1), (1, 2), (1, 2))), ((2, 3, 4), ((3, 4), (5, 8), (5, 8))),
        ]:
            with self.subTest(f"{some} {weights}"):
                self.check(load, some, weights)

    def narrow_all(self, load, weights):
        """Narrows all rows of the load, from these weights on, as often as that goes."""
        some = tuple(range(len(load[1])))
        weights = tuple((weight.numerator, weight.denominator) for weight in weights)
        self.assertGreater(max(bottom for _, bottom in weights), 10 ** 380)
        self.assertTrue(drawn.is_plain(weights))
        self.assertLess(drawn.seconds(narrowed, load, some, weights), drawn.SECONDS)
        while len(some) > load[0]:
            some, weights = self.check(load, some, weights)

    def test_great_bottoms_for_noughts(self):
        rng = random.Random(6)
        for kinds in range(1, 5):
            for many in range(kinds + 1, 25, 4):
                weights = [Fraction(1)] * (many - kinds) + [Fraction(0)] * kinds
                for k in range(min(kinds, many - kinds)):
                    bottom = 10 ** 399 - rng.randrange(10 ** 9)
                    weights[k] = Fraction(rng.randrange(1, bottom), bottom)
                    weights[-1 - k] = 1 - weights[k]
                with self.subTest(f"{kinds} {many}"):
                    self.narrow_all((kinds, ((0,) * kinds,) * many), weights)

    def test_great_bottoms_for_rows_that_take_one_another_off(self):
        rng = random.Random(7)
        rows = []
        for _ in range(12):
            row = tuple(rng.randint(-MOST, MOST) for _ in range(4))
            rows += [row, tuple(-item for item in row)]
        weights = []
        for _ in range(6):
            little = Fraction(1, 10 ** 398 - rng.randrange(10 ** 9))
            weights += [Fraction(5, 6) + little] * 2 + [Fraction(5, 6) - little] * 2
        self.narrow_all((4, tuple(rows)), weights)

    def test_great_bottoms_for_rows_of_any_amounts(self):
        rng = random.Random(8)
        for many in (3, 9, 24):
            load = drawn.even_load(rng, 1, many, MOST)
            weights = [Fraction(many - 1, many)] * many
            for k in range(0, many, 3):
                # Three rows may be given more and less so that neither their sum nor what they come to changes.
                a, b, c = (row[0] for row in load[1][k:k + 3])
                little = Fraction(1, 10 ** 396 - rng.randrange(10 ** 9))
                weights[k] += (b - c) * little
                weights[k + 1] += (c - a) * little
                weights[k + 2] += (a - b) * little
            with self.subTest(many):
                self.narrow_all(load, weights)


class Examples(unittest.TestCase):
    def test_those_of_the_document(self):
        self.assertLessEqual(height(E, steady_order(E)), 6)
        self.assertIs(chain_holds(F, chain(F)), True)
        self.assertEqual(chain((2, ())), ((), ()))
        self.assertEqual(chain((2, ((0, 0),))), ((0,), ()))
        self.assertIs(chain_holds(PAIR, ((1, 0), (((1, 2), (1, 2)),))), True)
        self.assertIs(chain_holds(PAIR, ((1, 0), (((1, 1), (0, 1)),))), False)
        self.assertIs(chain_holds((1, ((0,),)), ((0,), ())), True)
        self.assertEqual(narrowed(PAIR, (0, 1), ((1, 2), (1, 2)))[1], ((0, 1),))
        self.assertIs(type(drawn.caught(chain, (1, ((1,),)))), Uneven)


if __name__ == "__main__":
    unittest.main()
