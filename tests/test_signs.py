"""E1, E2 and E3: sign papers, what holds as one, steady and best signs, orders halved; A2 (a) and (b)."""

import copy
import itertools
import random
import unittest
from fractions import Fraction

import drawn
from drawn import E, F, MOST, changed
from nearnought import signs as module
from nearnought.beginnings import height, sign_height, size
from nearnought.errors import TooMany, Uneven
from nearnought.signs import along, best_signs, halved, sign_paper, sign_paper_holds, steady_signs

NAMES = ("sign_paper", "sign_paper_holds", "steady_signs", "best_signs", "along", "halved")
PAIR = (1, ((2,), (1,)))
THREE = (1, ((0,), (0,), (0,)))


def own_loads(seed):
    """Loads of all kinds and numbers of rows, also with rows of one sign alone, alike rows and noughts."""
    rng = random.Random(seed)
    found = drawn.loads(seed)
    for kinds in range(1, 5):
        for many in (1, 2, 3, 5, 9, 16, 23, 24):
            upward = tuple(tuple(rng.randint(0, 9) for _ in range(kinds)) for _ in range(many))
            downward = tuple(tuple(rng.randint(-MOST, -1) for _ in range(kinds)) for _ in range(many))
            few = [tuple(rng.randint(-5, 5) for _ in range(kinds)) for _ in range(2)] + [(0,) * kinds]
            alike = tuple(rng.choice(few) for _ in range(many))
            found += [(kinds, upward), (kinds, downward), (kinds, alike), (kinds, alike[:1] * many)]
    return found


def own_fraction(value):
    """The Fraction that value stands for, None if it is no fraction from -1 to 1 by the document's words."""
    if type(value) is not tuple or len(value) != 2 or [type(item) for item in value] != [int, int]:
        return None
    top, bottom = value
    if bottom < 1 or not -bottom <= top <= bottom:
        return None
    told = Fraction(top, bottom)
    return told if (told.numerator, told.denominator) == (top, bottom) else None


def is_own_paper(load, value):
    """Whether value is a sign paper of the load, by the document's words."""
    kinds, rows = load
    if type(value) is not tuple or len(value) != 2:
        return False
    signs, steps = value
    if type(signs) is not tuple or len(signs) != len(rows):
        return False
    if not all(type(sign) is int and sign in (1, -1) for sign in signs):
        return False
    if type(steps) is not tuple or len(steps) != len(range(kinds + 1, len(rows) + 1)):
        return False
    return all(is_own_step(load, signs, k, step) for k, step in zip(range(kinds + 1, len(rows) + 1), steps))


def is_own_step(load, signs, k, step):
    kinds, rows = load
    if type(step) is not tuple or len(step) != k:
        return False
    told = [own_fraction(item) for item in step]
    if None in told:
        return False
    for kind in range(kinds):
        if sum(part * row[kind] for part, row in zip(told, rows)) != 0:
            return False
    return sum(part == sign for part, sign in zip(told, signs)) >= k - kinds


def own_mix(columns):
    """Numbers, not all 0, with which the columns come to a nought; None if there are none."""
    kept = []
    for index, column in enumerate(columns):
        line, made = [Fraction(item) for item in column], {index: Fraction(1)}
        for place, other, other_made in kept:
            share = line[place] / other[place]
            line = [item - share * less for item, less in zip(line, other)]
            for key, much in other_made.items():
                made[key] = made.get(key, 0) - share * much
        place = next((k for k, item in enumerate(line) if item != 0), None)
        if place is None:
            return [made.get(k, Fraction(0)) for k in range(len(columns))]
        kept.append((place, line, made))
    return None


def own_paper(rng, load):
    """A sign paper made by the test, in ways that are drawn."""
    kinds, rows = load
    parts, steps = [], []
    for k in range(1, len(rows) + 1):
        parts.append(Fraction(0))
        # Only as many steps as must be: here and there more fractions than needed stay between -1 and 1.
        while sum(abs(part) < 1 for part in parts) > kinds:
            free = [place for place, part in enumerate(parts) if abs(part) < 1]
            rng.shuffle(free)
            mix = own_mix([rows[place] for place in free])
            way = rng.choice((1, -1))
            mix = [way * item for item in mix]
            rooms = [
                ((1 - parts[place]) if item > 0 else (1 + parts[place])) / abs(item)
                for place, item in zip(free, mix) if item != 0
            ]
            for place, item in zip(free, mix):
                parts[place] += min(rooms) * item
        if k > kinds:
            steps.append(tuple((part.numerator, part.denominator) for part in parts))
    signs = tuple(int(part) if abs(part) == 1 else rng.choice((1, -1)) for part in parts)
    return signs, tuple(steps)


def own_sign_height(load, signs):
    total, highest = [0] * load[0], 0
    for row, sign in zip(load[1], signs):
        total = [item + sign * more for item, more in zip(total, row)]
        highest = max([highest] + [abs(item) for item in total])
    return highest


def short_loads(seed):
    """Loads of up to eight rows, of small amounts for the most part, so that several signs are the best."""
    rng = random.Random(seed)
    found = [load for load in drawn.even_loads(seed, 8)]
    for kinds in range(1, 5):
        for many in range(9):
            for most in (0, 1, 2, 4, MOST):
                found.append(drawn.load(rng, kinds, many, most))
            found.append((kinds, ((3, -2, 1, 0)[:kinds],) * many))
    return found


class Papers(unittest.TestCase):
    def test_they_are_defined_in_their_module(self):
        for name in NAMES:
            self.assertEqual(getattr(module, name).__module__, "nearnought.signs")

    def test_sign_paper_is_one_and_its_signs_are_steady(self):
        for load in own_loads(31):
            with self.subTest(drawn.shown(load)):
                found = sign_paper(load)
                self.assertTrue(drawn.is_plain(found))
                self.assertTrue(is_own_paper(load, found))
                self.assertLessEqual(own_sign_height(load, found[0]), 2 * load[0] * size(load))
                self.assertIs(sign_paper_holds(load, found), True)
                self.assertEqual(sign_paper(load=load), found)

    def test_the_first_rows_come_to_at_most_twice_kinds_times_size(self):
        for load in own_loads(32):
            signs, steps = sign_paper(load)
            for step in steps:
                for kind in range(load[0]):
                    rows = load[1][:len(step)]
                    left = sum((sign - Fraction(*part)) * row[kind] for sign, part, row in zip(signs, step, rows))
                    self.assertEqual(left, sum(sign * row[kind] for sign, row in zip(signs, rows)))
                    self.assertLessEqual(abs(left), 2 * load[0] * size(load))

    def test_steady_signs(self):
        for load in own_loads(33):
            with self.subTest(drawn.shown(load)):
                found = steady_signs(load)
                self.assertIs(type(found), tuple)
                self.assertEqual(len(found), len(load[1]))
                self.assertTrue(all(type(sign) is int and sign in (1, -1) for sign in found))
                self.assertLessEqual(own_sign_height(load, found), 2 * load[0] * size(load))
                self.assertEqual(steady_signs(load=load), found)

    def test_as_few_rows_as_kinds(self):
        for kinds in range(1, 5):
            for many in range(kinds + 1):
                for load in [(kinds, ((0,) * kinds,) * many), drawn.load(random.Random(many), kinds, many, 9)]:
                    with self.subTest(drawn.shown(load)):
                        signs, steps = sign_paper(load)
                        self.assertEqual(len(signs), many)
                        self.assertEqual(steps, ())
        self.assertEqual(sign_paper((3, ())), ((), ()))
        self.assertEqual(steady_signs((3, ())), ())

    def test_one_row_more_than_kinds_has_one_step(self):
        for kinds in range(1, 5):
            load = drawn.load(random.Random(kinds), kinds, kinds + 1, 9)
            steps = sign_paper(load)[1]
            self.assertEqual([len(step) for step in steps], [kinds + 1])

    def test_rows_that_are_all_alike(self):
        for kinds in range(1, 5):
            alike = (kinds, ((MOST,) * kinds,) * 24)
            self.assertLessEqual(own_sign_height(alike, steady_signs(alike)), 2 * kinds * MOST)

    def test_equal_calls_get_equal_results(self):
        for load in (E, F, drawn.load(random.Random(1), 3, 20, MOST), (2, ((0, 0),) * 24)):
            first = [sign_paper(load), steady_signs(load)]
            sign_paper(drawn.load(random.Random(2), 4, 24, MOST))
            self.assertEqual([sign_paper(load), steady_signs(load)], first)

    def test_each_call_at_the_bounds_is_quick(self):
        for seed in range(4):
            load = drawn.load(random.Random(seed), 4, 24, MOST)
            paper = sign_paper(load)
            for function, more in [(sign_paper, ()), (sign_paper_holds, (paper,)), (steady_signs, ())]:
                self.assertLess(drawn.seconds(function, load, *more), drawn.SECONDS)


class Holds(unittest.TestCase):
    def check(self, load, value, expected):
        with self.subTest(f"{drawn.shown(load)} {value!r:.200}"):
            self.assertIs(sign_paper_holds(load, value), expected)
            self.assertIs(sign_paper_holds(load=load, value=value), expected)

    def test_true_for_papers_made_otherwise(self):
        rng = random.Random(3)
        others = 0
        for load in own_loads(34)[::3]:
            value = own_paper(rng, load)
            self.assertTrue(is_own_paper(load, value))
            self.check(load, value, True)
            others += value != sign_paper(load)
            signs, steps = value
            less = tuple(tuple((-top, bottom) for top, bottom in step) for step in steps)
            self.check(load, (tuple(-sign for sign in signs), less), True)
        self.assertGreater(others, 100)

    def test_a_few_right_ones(self):
        for kinds in range(1, 5):
            self.check((kinds, ()), ((), ()), True)
            load = drawn.load(random.Random(kinds), kinds, kinds, 9)
            for signs in itertools.product((1, -1), repeat=kinds):
                self.check(load, (signs, ()), True)
        self.check(THREE, ((1, -1, 1), (((1, 1), (-1, 1)), ((1, 1), (-1, 1), (1, 1)))), True)
        self.check(THREE, ((1, -1, 1), (((1, 1), (0, 1)), ((1, 1), (-1, 1), (-2, 7)))), True)
        self.check(THREE, ((1, -1, 1), (((1, 2), (-1, 1)), ((1, 1), (1, 1), (1, 1)))), True)
        self.check(THREE, ((1, -1, -1), (((-1, 1), (-1, 1)), ((1, 1), (1, 3), (-1, 1)))), True)

    def test_a_sign_may_be_that_of_another_row_in_each_step(self):
        value = ((1, 1, 1), (((1, 1), (0, 1)), ((0, 1), (1, 1), (1, 1))))
        self.assertTrue(is_own_paper(THREE, value))
        self.check(THREE, value, True)

    def test_false_with_a_sign_too_few(self):
        self.check(THREE, ((1, 1, 1), (((0, 1), (1, 2)), ((1, 1), (1, 1), (0, 1)))), False)
        self.check(THREE, ((1, 1, 1), (((0, 1), (-1, 1)), ((1, 1), (1, 1), (0, 1)))), False)
        self.check(THREE, ((1, 1, 1), (((0, 1), (1, 1)), ((1, 1), (-1, 1), (0, 1)))), False)
        self.check(THREE, ((1, 1, 1), (((0, 1), (1, 1)), ((1, 1), (99, 100), (-1, 1)))), False)
        self.check(THREE, ((1, 1, 1), (((0, 1), (0, 1)), ((0, 1), (0, 1), (0, 1)))), False)

    def test_false_for_one_fraction_otherwise(self):
        rng = random.Random(4)
        for load in (F, THREE, PAIR, drawn.load(rng, 2, 7, 5), (3, ((0, 0, 0),) * 6), drawn.load(rng, 4, 6, MOST)):
            signs, steps = sign_paper(load)
            for k, step in enumerate(steps):
                for place, part in enumerate(step):
                    top, bottom = part
                    for other in [
                        (0, 1), (1, 1), (-1, 1), (1, 2), (-1, 3), (3, 2), (-3, 2), (2, 1), (-2, 1), (0, 2), (2, 2),
                        (-2, 2), (10 ** 399, 10 ** 399 + 1), (top, bottom + 1), (-top, bottom), (2 * top, 2 * bottom),
                        (-top, -bottom), (3 * top, 3 * bottom), (0, 0), (1, 0), (top, -bottom), [top, bottom], (top,),
                        (top, bottom, 1), (), top, None, "1/2", (None, 1), ("0", "1"), (float(top), bottom),
                        {0: top, 1: bottom}, True, False,
                    ]:
                        if repr(other) != repr(part):
                            value = (signs, changed(steps, k, changed(step, place, other)))
                            self.check(load, value, is_own_paper(load, value))

    def test_false_for_fractions_beyond_1_or_with_a_common_divisor_though_the_rest_is_right(self):
        good = (((1, 1), (1, 2)), ((1, 1), (1, 1), (1, 2)))
        self.check(THREE, ((1, 1, 1), good), True)
        for other in [(3, 2), (-3, 2), (2, 1), (-2, 1), (2, 4), (-2, 4), (0, 2), (1, -2), (2, 2), (1, 0), (0, 0)]:
            self.check(THREE, ((1, 1, 1), (good[0], ((1, 1), (1, 1), other))), False)
            self.check(THREE, ((1, 1, 1), (((1, 1), other), good[1])), False)
            self.check(THREE, ((1, 1, 1), (good[0], (other, (1, 1), (1, 1)))), False)
        self.check((1, ((2,), (1,))), ((1, -1), (((1, 2), (-1, 1)),)), True)
        self.check((1, ((2,), (1,))), ((1, -1), (((2, 4), (-1, 1)),)), False)
        self.check((1, ((2,), (1,))), ((1, 1), (((1, 1), (-2, 1)),)), False)
        self.check((1, ((1,), (1,))), ((1, 1), (((1, 1), (-1, 1)),)), True)

    def test_false_for_rows_that_come_to_no_nought(self):
        self.check(PAIR, ((1, -1), (((1, 1), (-1, 1)),)), False)
        self.check(PAIR, ((1, -1), (((1, 3), (-1, 1)),)), False)
        self.check(PAIR, ((1, 1), (((1, 2), (1, 1)),)), False)
        two = (2, ((0, 0), (0, 1), (0, -1)))
        self.check(two, ((1, 1, 1), (((1, 5), (1, 1), (1, 1)),)), True)
        self.check(two, ((1, 1, 1), (((1, 5), (1, 1), (1, 2)),)), False)
        self.check(two, ((1, 1, -1), (((1, 1), (1, 1), (-1, 1)),)), False)

    def test_false_for_one_sign_otherwise(self):
        for load in (F, PAIR, THREE, drawn.load(random.Random(5), 2, 7, 5)):
            signs, steps = sign_paper(load)
            for place, sign in enumerate(signs):
                value = (changed(signs, place, -sign), steps)
                self.check(load, value, is_own_paper(load, value))
                for other in (0, 2, -2, None, "1", (1,), [1], float(sign), True, False, 10 ** 399):
                    self.check(load, (changed(signs, place, other), steps), False)
        self.check(PAIR, ((1, -1), (((1, 2), (-1, 1)),)), True)
        self.check(PAIR, ((-1, -1), (((1, 2), (-1, 1)),)), True)
        self.check(PAIR, ((1, 1), (((1, 2), (-1, 1)),)), False)

    def test_false_for_true_and_false_as_numbers(self):
        steps = (((1, 1), (0, 1)), ((1, 1), (1, 1), (0, 1)))
        self.check(THREE, ((1, 1, 1), steps), True)
        for k, step in enumerate(steps):
            for place, (top, bottom) in enumerate(step):
                for other in ((bool(top), bottom), (top, True), (bool(top), True)):
                    self.check(THREE, ((1, 1, 1), changed(steps, k, changed(step, place, other))), False)
        for place in range(3):
            self.check(THREE, (changed((1, 1, 1), place, True), steps), False)

    def test_false_for_too_few_or_too_many_signs(self):
        for load in (F, PAIR, (2, ()), (2, ((1, 2),))):
            signs, steps = sign_paper(load)
            for other in [signs[1:], signs[:-1], signs + (1,), (-1,) + signs, (), None, "11", (signs,), 1]:
                if other != signs:
                    self.check(load, (other, steps), False)

    def test_false_for_steps_too_few_too_many_or_in_another_order(self):
        for load in (F, PAIR, THREE, drawn.load(random.Random(6), 2, 9, 5)):
            signs, steps = sign_paper(load)
            for other in [
                (), steps[1:], steps[:-1], steps + steps[-1:], steps + ((),), ((),) + steps, steps + (None,),
                steps[::-1], steps[:1] + steps, (steps,), steps[1:] + steps[:1], steps[0],
            ]:
                if other != steps:
                    self.check(load, (signs, other), False)
        self.check((1, ((0,),)), ((1,), ((),)), False)
        self.check((1, ((0,),)), ((1,), (((1, 1),),)), False)
        self.check((2, ()), ((), ((),)), False)
        self.check((1, ((0,), (0,))), ((1, 1), ()), False)

    def test_false_for_a_step_with_a_fraction_too_few_or_too_many(self):
        for load in (F, THREE):
            signs, steps = sign_paper(load)
            for k, step in enumerate(steps):
                for other in (step[1:], step[:-1], step + ((0, 1),), ((0, 1),) + step, step + ((1, 1),), (), (step,)):
                    self.check(load, (signs, changed(steps, k, other)), False)

    def test_false_for_lists_in_the_place_of_tuples(self):
        signs, steps = sign_paper(F)
        self.check(F, [signs, steps], False)
        self.check(F, (list(signs), steps), False)
        self.check(F, (signs, list(steps)), False)
        for k, step in enumerate(steps):
            self.check(F, (signs, changed(steps, k, list(step))), False)
            for place, part in enumerate(step):
                self.check(F, (signs, changed(steps, k, changed(step, place, list(part)))), False)
        self.check((2, ()), ((), []), False)
        self.check((2, ()), ([], ()), False)
        self.check((2, ()), [(), ()], False)

    def test_false_for_a_paper_of_another_load(self):
        loads = [drawn.load(random.Random(seed), kinds, many, 9) for seed, kinds, many in [
            (1, 1, 5), (2, 1, 5), (3, 1, 6), (4, 2, 6), (5, 2, 6), (6, 3, 9), (7, 3, 9), (8, 4, 24), (9, 4, 24),
        ]]
        for one in loads:
            for other in loads:
                value = sign_paper(one)
                self.check(other, value, one == other)
                self.assertIs(is_own_paper(other, value), one == other)

    def test_false_for_other_values(self):
        signs, steps = sign_paper(F)
        for value in drawn.values() + [
            0, 1, (), (signs,), (signs, steps, ()), (steps, signs), signs, steps, ((signs, steps),), (0, 1),
            (signs, None), {"signs": signs, "steps": steps}, {0: signs, 1: steps}, (signs, {}), (signs, "steps"),
            (None, steps), ((), ()),
        ]:
            self.check(F, value, False)
            if value != ((), ()):
                self.check((3, ()), value, False)

    def test_great_bottoms(self):
        great = 10 ** 399
        first, last = ((1, 1), (1, great)), ((1, 1), (1 - great, great), (1, 1))
        self.check(THREE, ((1, 1, 1), (first, last)), True)
        self.check(THREE, ((1, 1, 1), (first, ((1, 1), (great - 1, great), (1, great)))), False)
        self.check(PAIR, ((1, 1), (((-great, 2 * great), (1, 1)),)), False)
        free = tuple((1, great + k) for k in range(4))
        steps = tuple(((1, 1),) * (k - 4) + free for k in range(5, 25))
        self.check((4, ((0,) * 4,) * 24), ((1,) * 24, steps), True)
        self.check((4, ((0,) * 4,) * 23 + ((0, 0, 0, 1),)), ((1,) * 24, steps), False)

    def test_what_is_passed_stays_as_it_was(self):
        signs, steps = sign_paper(F)
        for value in [
            [list(signs), [list(step) for step in steps]], (signs, [list(step) for step in steps]),
            ([0, 1], {"steps": [1]}), {"signs": [0]}, (signs, (list(steps[0]),) + steps[1:]),
        ]:
            before = copy.deepcopy(value)
            self.check(F, value, False)
            self.check(F, value, False)
            self.assertEqual(repr(value), repr(before))


class Best(unittest.TestCase):
    def test_against_all_signs(self):
        several = 0
        for load in short_loads(35):
            with self.subTest(drawn.shown(load)):
                heights = {
                    signs: own_sign_height(load, signs)
                    for signs in itertools.product((-1, 1), repeat=len(load[1]))
                }
                least = min(heights.values())
                best = [signs for signs in heights if heights[signs] == least]
                several += len(best) > 2
                found = best_signs(load)
                self.assertEqual(found, min(best))
                self.assertTrue(drawn.is_plain(found))
                self.assertEqual(best_signs(load=load), found)
        self.assertGreater(several, 100)

    def test_a_few(self):
        for load, signs in [
            ((1, ()), ()), ((4, ()), ()), ((1, ((5,),)), (-1,)), ((1, ((0,), (0,))), (-1, -1)),
            ((1, ((1,), (1,))), (-1, 1)), ((1, ((1,), (-1,))), (-1, -1)), ((1, ((1,),) * 8), (-1, 1) * 4),
            ((2, ((1, 0), (0, 1))), (-1, -1)),
        ]:
            with self.subTest(drawn.shown(load)):
                self.assertEqual(best_signs(load), signs)

    def test_more_than_eight_rows_are_too_many_even_or_not(self):
        rng = random.Random(7)
        for kinds in range(1, 5):
            for many in (9, 10, 24):
                for load in (drawn.even_load(rng, kinds, many, 9), drawn.load(rng, kinds, many, MOST)):
                    for error in (drawn.caught(best_signs, load), drawn.caught(best_signs, load=load)):
                        self.assertIs(type(error), TooMany)
                        self.assertEqual(error.limit, 8)
            self.assertIsNone(drawn.caught(best_signs, drawn.load(rng, kinds, 8, MOST)))

    def test_equal_calls_get_equal_results_and_quickly(self):
        load = drawn.load(random.Random(8), 4, 8, MOST)
        self.assertLess(drawn.seconds(best_signs, load), drawn.SECONDS)
        first = best_signs(load)
        best_signs(F)
        self.assertEqual(best_signs(load), first)


class Halved(unittest.TestCase):
    def test_along(self):
        rng = random.Random(9)
        for load in drawn.loads(36):
            kinds, rows = load
            for order in drawn.orders(rng, len(rows)):
                with self.subTest(f"{drawn.shown(load)} {order}"):
                    expected = (kinds, tuple(rows[index] for index in order))
                    self.assertEqual(along(load, order), expected)
                    self.assertEqual(along(load=load, order=order), expected)
                    self.assertIs(type(along(load, order)), tuple)
                    self.assertIs(type(along(load, order)[1]), tuple)

    def signs_along(self, rng, load, order):
        """Signs of the load along the order: told, best and drawn ones, and those of one sign alone."""
        many = len(order)
        found = [steady_signs(along(load, order)), (1,) * many, (-1,) * many]
        if many <= 8:
            found.append(best_signs(along(load, order)))
        for _ in range(2):
            found.append(tuple(rng.choice((1, -1)) for _ in range(many)))
        return found

    def test_halved(self):
        rng = random.Random(10)
        for load in drawn.even_loads(37):
            for order in drawn.orders(rng, len(load[1]), 1) + [drawn.high_order(load)]:
                for signs in self.signs_along(rng, load, order):
                    with self.subTest(f"{drawn.shown(load)} {order} {signs}"):
                        found = halved(load, order, signs)
                        ahead = [index for place, index in enumerate(order) if signs[place] == 1]
                        behind = [index for place, index in enumerate(order) if signs[place] != 1]
                        self.assertEqual(found, tuple(ahead + list(reversed(behind))))
                        self.assertTrue(drawn.is_plain(found))
                        self.assertEqual(halved(load=load, order=order, signs=signs), found)
                        both = height(load, order) + sign_height(along(load, order), signs)
                        self.assertLessEqual(2 * height(load, found), both)

    def test_again_and_again(self):
        for load in drawn.even_loads(38):
            order = drawn.high_order(load)
            bound = 2 * load[0] * size(load)
            with self.subTest(drawn.shown(load)):
                for _ in range(40):
                    signs = steady_signs(along(load, order))
                    high = height(load, order)
                    order = halved(load, order, signs)
                    self.assertLessEqual(2 * height(load, order), high + bound)
                self.assertLessEqual(height(load, order), bound + 1)

    def test_an_order_that_begins_high(self):
        load = (1, ((MOST,),) * 12 + ((-MOST,),) * 12)
        order = tuple(range(24))
        heights = [height(load, order)]
        for _ in range(6):
            order = halved(load, order, best_pairs(load, order))
            heights.append(height(load, order))
        self.assertEqual(heights[:3], [12 * MOST, 6 * MOST, 3 * MOST])
        self.assertLessEqual(heights[-1], 2 * MOST)

    def test_uneven(self):
        for load in drawn.UNEVEN:
            many = len(load[1])
            for order in drawn.orders(random.Random(11), many):
                for signs in ((1,) * many, (-1,) * many):
                    for error in (
                        drawn.caught(halved, load, order, signs),
                        drawn.caught(halved, load=load, order=order, signs=signs),
                    ):
                        self.assertIs(type(error), Uneven)
            self.assertEqual(along(load, tuple(range(many))), load)

    def test_equal_calls_get_equal_results_and_quickly(self):
        load = drawn.even_load(random.Random(12), 4, 24, MOST)
        order, signs = drawn.high_order(load), (1, -1, -1) * 8
        first = [along(load, order), halved(load, order, signs)]
        halved(F, (4, 3, 2, 1, 0), (1, 1, -1, 1, 1))
        self.assertEqual([along(load, order), halved(load, order, signs)], first)
        self.assertLess(drawn.seconds(along, load, order), drawn.SECONDS)
        self.assertLess(drawn.seconds(halved, load, order, signs), drawn.SECONDS)


def best_pairs(load, order):
    """Signs by which of two neighbours of the order one is taken from the other."""
    signs, rows = [], [load[1][index][0] for index in order]
    for one, other in zip(rows[::2], rows[1::2]):
        signs += [1, -1 if one * other > 0 else 1]
    return tuple(signs)


class Examples(unittest.TestCase):
    def test_those_of_the_document(self):
        self.assertEqual([best_signs(E), best_signs(F)], [(-1, -1, -1), (-1, 1, -1, -1, 1)])
        self.assertEqual(sign_height(F, best_signs(F)), 2)
        self.assertLessEqual(sign_height(E, steady_signs(E)), 12)
        self.assertIs(sign_paper_holds(F, sign_paper(F)), True)
        self.assertIs(sign_paper_holds(PAIR, ((1, -1), (((1, 2), (-1, 1)),))), True)
        self.assertIs(sign_paper_holds(PAIR, ((1, 1), (((1, 2), (-1, 1)),))), False)
        self.assertEqual(along(E, (2, 0, 1)), (2, ((-2, -2), (3, 0), (-1, 2))))
        self.assertEqual(halved(E, (2, 0, 1), (1, -1, -1)), (2, 1, 0))
        self.assertEqual(halved(F, (0, 1, 2, 3, 4), (1, -1, 1, 1, -1)), (0, 2, 3, 4, 1))


if __name__ == "__main__":
    unittest.main()
