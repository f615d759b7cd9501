"""I1 and I2: loads made of loads; A2 (g) of negated loads."""

import random
import unittest

import drawn
from drawn import E, F, MOST
from nearnought import changes
from nearnought.beginnings import height, is_even
from nearnought.changes import beside, joined, merged, negated, of_kinds, parted, scaled, without
from nearnought.errors import TooGreat, TooMany, Unfit
from nearnought.forms import load_error

NAMES = ("joined", "beside", "negated", "scaled", "of_kinds", "merged", "parted", "without")


def some_loads(seed):
    """Loads of all kinds and numbers of rows, every fourth of them."""
    found = drawn.loads(seed)
    return found[:5] + found[seed % 4::4] + [(kinds, ()) for kinds in range(1, 5)]


class Case(unittest.TestCase):
    def is_load(self, found):
        self.assertIsNone(load_error(found))
        self.assertTrue(drawn.is_plain(found))

    def check(self, function, named, expected):
        with self.subTest(f"{function.__name__} {named!r:.200}"):
            before = repr(named)
            for found in (function(**named), function(*named.values())):
                self.assertEqual(found, expected)
                self.is_load(found)
            self.assertEqual(repr(named), before)

    def wrong(self, function, named, kind, field=None, given=None):
        with self.subTest(f"{function.__name__} {named!r:.200}"):
            for error in (drawn.caught(function, **named), drawn.caught(function, *named.values())):
                self.assertIs(type(error), kind)
                if field is not None:
                    self.assertEqual(getattr(error, field), given)
                    self.assertIsNot(type(getattr(error, field)), bool)


class Joined(Case):
    def test_they_are_defined_in_their_module(self):
        for name in NAMES:
            self.assertEqual(getattr(changes, name).__module__, "nearnought.changes")

    def test_pairs(self):
        told = {None: 0, TooMany: 0, Unfit: 0}
        for one in some_loads(1)[::4]:
            for other in some_loads(2)[::5]:
                named = {"one": one, "other": other}
                if one[0] != other[0]:
                    self.wrong(joined, named, Unfit)
                    told[Unfit] += 1
                elif len(one[1]) + len(other[1]) > 24:
                    self.wrong(joined, named, TooMany, "limit", 24)
                    told[TooMany] += 1
                else:
                    self.check(joined, named, (one[0], one[1] + other[1]))
                    told[None] += 1
        self.assertGreater(min(told.values()), 20)

    def test_at_the_bounds(self):
        rng = random.Random(1)
        for many in (0, 1, 12, 23, 24):
            one, other = drawn.load(rng, 2, many, 9), drawn.load(rng, 2, 24 - many, 9)
            more = drawn.load(rng, 2, 25 - many, 9) if many else drawn.load(rng, 2, 24, 9)
            self.check(joined, {"one": one, "other": other}, (2, one[1] + other[1]))
            if many:
                self.wrong(joined, {"one": one, "other": more}, TooMany, "limit", 24)
        full = drawn.load(rng, 3, 24, 9)
        self.wrong(joined, {"one": full, "other": full}, TooMany, "limit", 24)
        self.wrong(joined, {"one": full, "other": drawn.load(rng, 2, 24, 9)}, Unfit)
        self.wrong(joined, {"one": (1, ()), "other": (2, ())}, Unfit)
        self.check(joined, {"one": (4, ()), "other": (4, ())}, (4, ()))


class Beside(Case):
    def test_pairs(self):
        told = {"fits": 0, 4: 0, 24: 0}
        for one in some_loads(3)[::4]:
            for other in some_loads(4)[::5]:
                named = {"one": one, "other": other}
                if one[0] + other[0] > 4:
                    self.wrong(beside, named, TooMany, "limit", 4)
                    told[4] += 1
                elif len(one[1]) + len(other[1]) > 24:
                    self.wrong(beside, named, TooMany, "limit", 24)
                    told[24] += 1
                else:
                    rows = [list(row) + [0 for _ in range(other[0])] for row in one[1]]
                    rows += [[0 for _ in range(one[0])] + list(row) for row in other[1]]
                    self.check(beside, named, (one[0] + other[0], tuple(tuple(row) for row in rows)))
                    told["fits"] += 1
        self.assertGreater(min(told.values()), 20)

    def test_at_the_bounds(self):
        rng = random.Random(2)
        for one, other in [(1, 3), (2, 2), (3, 1), (1, 1), (1, 2)]:
            self.is_load(beside(drawn.load(rng, one, 12, 9), drawn.load(rng, other, 12, 9)))
            named = {"one": drawn.load(rng, one, 12, 9), "other": drawn.load(rng, other, 13, 9)}
            self.wrong(beside, named, TooMany, "limit", 24)
        for one, other in [(1, 4), (4, 1), (2, 3), (3, 2), (4, 4)]:
            self.wrong(beside, {"one": (one, ()), "other": (other, ())}, TooMany, "limit", 4)
            named = {"one": drawn.load(rng, one, 24, 9), "other": drawn.load(rng, other, 24, 9)}
            self.wrong(beside, named, TooMany, "limit", 4)
        self.check(beside, {"one": (1, ((5,),)), "other": (3, ())}, (4, ((5, 0, 0, 0),)))
        self.check(beside, {"one": (1, ()), "other": (2, ((5, 6),))}, (3, ((0, 5, 6),)))


class Scaled(Case):
    def test_negated(self):
        rng = random.Random(3)
        for load in some_loads(5):
            kinds, rows = load
            expected = (kinds, tuple(tuple(-item for item in row) for row in rows))
            self.check(negated, {"load": load}, expected)
            self.assertEqual(negated(negated(load)), load)
            self.assertIs(is_even(negated(load)), is_even(load))
            for order in drawn.orders(rng, len(rows)):
                self.assertEqual(height(negated(load), order), height(load, order))

    def test_scaled(self):
        for load in some_loads(6):
            kinds, rows = load
            for times in (0, 1, -1, 2, -3, 1000, MOST, -MOST, 9999999, -9999999):
                found = tuple(tuple(times * item for item in row) for row in rows)
                wrong = [index for index, row in enumerate(found) if any(abs(item) > MOST for item in row)]
                named = {"load": load, "times": times}
                if wrong:
                    self.wrong(scaled, named, TooGreat, "index", wrong[0])
                else:
                    self.check(scaled, named, (kinds, found))

    def test_at_the_bounds(self):
        self.check(scaled, {"load": (1, ((500000,), (-500000,))), "times": -2}, (1, ((-MOST,), (MOST,))))
        for times in (-2, 2, 3, 9999999):
            self.wrong(scaled, {"load": (1, ((0,), (500001,), (MOST,))), "times": times}, TooGreat, "index", 1)
            self.wrong(scaled, {"load": (2, ((0, 0),) * 23 + ((0, -500001),)), "times": times}, TooGreat, "index", 23)
        self.check(scaled, {"load": (2, ((MOST, 0), (-MOST, 7))), "times": 0}, (2, ((0, 0), (0, 0))))
        self.check(scaled, {"load": (1, ((MOST,), (-MOST,))), "times": -1}, (1, ((-MOST,), (MOST,))))
        self.check(scaled, {"load": (3, ()), "times": 9999999}, (3, ()))
        self.check(scaled, {"load": (1, ((1,), (0,), (-1,))), "times": MOST}, (1, ((MOST,), (0,), (-MOST,))))
        self.wrong(scaled, {"load": (1, ((1,), (0,), (-1,))), "times": MOST + 1}, TooGreat, "index", 0)


class Kinds(Case):
    def test_of_kinds(self):
        rng = random.Random(4)
        for load in some_loads(7):
            kinds, rows = load
            for many in range(1, 5):
                places = tuple(rng.randrange(kinds) for _ in range(many))
                expected = (many, tuple(tuple(row[place] for place in places) for row in rows))
                self.check(of_kinds, {"load": load, "places": places}, expected)
            self.check(of_kinds, {"load": load, "places": tuple(range(kinds))}, load)

    def test_in_any_order_and_several_times(self):
        load = (3, ((1, 2, 3), (4, 5, 6)))
        for places, rows in [
            ((0,), ((1,), (4,))), ((2,), ((3,), (6,))), ((2, 1, 0), ((3, 2, 1), (6, 5, 4))),
            ((1, 1, 1, 1), ((2,) * 4, (5,) * 4)), ((2, 0, 2, 0), ((3, 1, 3, 1), (6, 4, 6, 4))),
        ]:
            self.check(of_kinds, {"load": load, "places": places}, (len(places), rows))
        self.check(of_kinds, {"load": (1, ()), "places": (0, 0, 0, 0)}, (4, ()))


class Rows(Case):
    def test_merged(self):
        told = {True: 0, False: 0}
        for load in some_loads(8):
            kinds, rows = load
            for index in range(0, len(rows), 3):
                for other in {0, len(rows) - 1, len(rows) // 2} - {index}:
                    row = tuple(rows[index][kind] + rows[other][kind] for kind in range(kinds))
                    low, high = sorted((index, other))
                    named = {"load": load, "index": index, "other_index": other}
                    fits = all(abs(item) <= MOST for item in row)
                    told[fits] += 1
                    if fits:
                        expected = rows[:low] + (row,) + rows[low + 1:high] + rows[high + 1:]
                        self.check(merged, named, (kinds, expected))
                    else:
                        self.wrong(merged, named, TooGreat, "index", low)
        self.assertGreater(min(told.values()), 50)

    def test_merged_at_the_bounds(self):
        load = (1, ((1,), (MOST - 1,), (2,), (-MOST,), (0,), (-1,)))
        for index, other, rows in [
            (0, 1, ((MOST,), (2,), (-MOST,), (0,), (-1,))), (1, 0, ((MOST,), (2,), (-MOST,), (0,), (-1,))),
            (3, 1, ((1,), (-1,), (2,), (0,), (-1,))), (4, 3, ((1,), (MOST - 1,), (2,), (-MOST,), (-1,))),
            (5, 0, ((0,), (MOST - 1,), (2,), (-MOST,), (0,))),
        ]:
            self.check(merged, {"load": load, "index": index, "other_index": other}, (1, rows))
        for index, other, low in [(1, 2, 1), (2, 1, 1), (3, 5, 3), (5, 3, 3)]:
            self.wrong(merged, {"load": load, "index": index, "other_index": other}, TooGreat, "index", low)
        two = {"load": (1, ((5,), (-5,))), "index": 1, "other_index": 0}
        self.check(merged, two, (1, ((0,),)))

    def test_parted(self):
        rng = random.Random(5)
        told = {True: 0, False: 0}
        for load in some_loads(9):
            kinds, rows = load
            for index in range(0, len(rows), 3):
                for most in (3, MOST):
                    row = tuple(rng.randint(-most, most) for _ in range(kinds))
                    left = tuple(rows[index][kind] - row[kind] for kind in range(kinds))
                    named = {"load": load, "index": index, "row": row}
                    fits = all(abs(item) <= MOST for item in left)
                    told[fits] += 1
                    if len(rows) == 24:
                        self.wrong(parted, named, TooMany, "limit", 24)
                    elif fits:
                        self.check(parted, named, (kinds, rows[:index] + (row, left) + rows[index + 1:]))
                        self.assertEqual(merged(parted(load, index, row), index + 1, index), load)
                    else:
                        self.wrong(parted, named, TooGreat, "index", index)
        self.assertGreater(min(told.values()), 50)

    def test_parted_at_the_bounds(self):
        load = (1, ((5,),) * 22 + ((-1,),))
        self.check(parted, {"load": load, "index": 22, "row": (MOST - 1,)}, (1, ((5,),) * 22 + ((MOST - 1,), (-MOST,))))
        self.wrong(parted, {"load": load, "index": 22, "row": (MOST,)}, TooGreat, "index", 22)
        self.check(parted, {"load": load, "index": 0, "row": (5 - MOST,)}, (1, ((5 - MOST,), (MOST,)) + load[1][1:]))
        self.wrong(parted, {"load": load, "index": 0, "row": (4 - MOST,)}, TooGreat, "index", 0)
        full = (1, ((-5,),) * 24)
        for index in (0, 23):
            for row in ((0,), (MOST,)):
                self.wrong(parted, {"load": full, "index": index, "row": row}, TooMany, "limit", 24)

    def test_without(self):
        rng = random.Random(6)
        for load in some_loads(10):
            kinds, rows = load
            many = len(rows)
            for some in [(), tuple(range(many)), tuple(sorted(rng.sample(range(many), many // 2)))]:
                expected = tuple(row for index, row in enumerate(rows) if index not in some)
                self.check(without, {"load": load, "some": some}, (kinds, expected))
            for index in range(0, many, 5):
                expected = rows[:index] + rows[index + 1:]
                self.check(without, {"load": load, "some": (index,)}, (kinds, expected))

    def test_equal_calls_get_equal_results_and_quickly(self):
        rng = random.Random(7)
        one, other = drawn.load(rng, 2, 12, 999), drawn.load(rng, 2, 12, 999)
        calls = [
            (joined, (one, other)), (beside, (one, other)), (negated, (one,)), (scaled, (one, -7)),
            (of_kinds, (one, (1, 0, 1, 1))), (merged, (one, 11, 3)), (parted, (one, 11, (5, -5))),
            (without, (one, tuple(range(0, 12, 2)))),
        ]
        first = [function(*more) for function, more in calls]
        for function, more in calls:
            self.assertLess(drawn.seconds(function, *more), drawn.SECONDS)
        self.assertEqual([function(*more) for function, more in calls], first)


class Examples(Case):
    def test_those_of_the_document(self):
        self.assertEqual(joined(F, negated(F))[1][5:7], ((-2,), (-2,)))
        self.assertEqual(beside(E, (1, ((7,),)))[1][2:], ((-2, -2, 0), (0, 0, 7)))
        self.assertEqual(scaled(E, -2)[1][0], (-6, 0))
        self.assertEqual(of_kinds(E, (1, 1, 0))[1][1], (2, 2, -1))
        self.assertEqual(merged(E, 2, 0), (2, ((1, -2), (-1, 2))))
        self.assertEqual(parted(E, 1, (-1, 1)), (2, ((3, 0), (-1, 1), (0, 1), (-2, -2))))
        self.assertEqual(without(F, (0, 4)), (1, ((2,), (2,), (-3,))))
        self.wrong(scaled, {"load": (1, ((5,), (10 ** 6,))), "times": 2}, TooGreat, "index", 1)


if __name__ == "__main__":
    unittest.main()
