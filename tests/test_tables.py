"""F1, F2 and F3: tables and shares, their errors, roundings that are near and the best ones; A2 (e)."""

import copy
import itertools
import random
import unittest
from fractions import Fraction

import drawn
from drawn import MOST, changed
from nearnought import tables
from nearnought.errors import TooMany
from nearnought.tables import best_rounded, errors, is_near, rounded, shares_error, table_error, widest

NAMES = ("table_error", "shares_error", "widest", "errors", "rounded", "is_near", "best_rounded")
W, H = ((1, 1, 0), (0, 1, 1)), ((1, 2), (1, 2), (1, 2))
HUGE = 10 ** 399
WIDE = 10 ** 6 - 1
NO_INTEGERS = [None, True, False, "", "1", (), (1,), [], [1], {}, {1: 1}, 1.0, 0.0, "1/2"]
PRIMES = (
    999983, 999979, 999961, 999959, 999953, 999931, 999917, 999907, 999883, 999863, 999853, 999809, 999773, 999769,
    999763, 999749,
)


def told(part):
    """The fraction as a pair of integers."""
    part = Fraction(part)
    return (part.numerator, part.denominator)


def drawn_table(rng, lines, columns, most):
    return tuple(tuple(rng.randint(-most, most) for _ in range(columns)) for _ in range(lines))


def drawn_shares(rng, columns):
    """Shares of one kind: halves, thirds, great bottoms, 0 and 1 among them, or of all kinds."""
    bottoms = rng.choice([(2,), (3,), (1, 2), (1,), (WIDE,), (999983, 999979, 999961), (1, 2, 3, 7, 999983, WIDE)])
    found = []
    for _ in range(columns):
        bottom = rng.choice(bottoms)
        found.append(told(Fraction(rng.randint(0, bottom), bottom)))
    return tuple(found)


def all_tables(seed):
    """Tables of 1 to 6 lines and 0 to 16 columns, with shares of each."""
    rng = random.Random(seed)
    found = []
    for lines in range(1, 7):
        for columns in range(17):
            made = [drawn_table(rng, lines, columns, most) for most in (1, 5, MOST)]
            great = ((0,) * columns,) * (lines - 1) + ((0,) * (columns - 1) + (MOST,) if columns else (),)
            few = tuple(tuple(rng.choice((0, 0, 0, 1, -1)) for _ in range(columns)) for _ in range(lines))
            # Each column comes to the same: its items are moved from line to line.
            alike = tuple(tuple((line + k) % lines + 1 for k in range(columns)) for line in range(lines))
            made += [((1,) * columns,) * lines, ((0,) * columns,) * lines, great, few, alike]
            for table in made:
                found.append((table, drawn_shares(rng, columns)))
            found.append((((MOST,) * columns,) * lines, ((1, 2),) * columns))
            found.append((made[1], tuple((PRIMES[k] // 2, PRIMES[k]) for k in range(columns))))
    return found


def own_errors(table, shares, rounding):
    """The errors as Fractions."""
    return [
        sum((Fraction(item) * (up - Fraction(*share)) for item, up, share in zip(line, rounding, shares)), Fraction(0))
        for line in table
    ]


def own_widest(table):
    greatest = 0
    for k in range(len(table[0])):
        greatest = max(greatest, sum(line[k] if line[k] > 0 else -line[k] for line in table))
    return greatest


def is_own_near(table, shares, value):
    """Whether value is a rounding that is near, by the document's words."""
    if type(value) is not tuple or len(value) != len(shares):
        return False
    if not all(type(item) is int and item in (0, 1) for item in value):
        return False
    if any(Fraction(*share) in (0, 1) and Fraction(*share) != item for share, item in zip(shares, value)):
        return False
    return all(part == 0 or abs(part) < own_widest(table) for part in own_errors(table, shares, value))


class TableError(unittest.TestCase):
    def check(self, value, expected):
        with self.subTest(repr(value)[:150]):
            found = table_error(value)
            self.assertEqual(found, expected)
            if expected is not None:
                self.assertIs(type(found), tuple)
                self.assertIsNot(type(found[0]), bool)
            self.assertEqual(table_error(value=value), expected)

    def test_they_are_defined_in_their_module(self):
        for name in NAMES:
            self.assertEqual(getattr(tables, name).__module__, "nearnought.tables")

    def test_none_for_tables(self):
        for table, _ in all_tables(41):
            self.check(table, None)

    def test_none_just_within_the_bounds(self):
        self.check(((),), None)
        self.check(((),) * 6, None)
        self.check(((0,),), None)
        self.check(((MOST, -MOST) * 8,) * 6, None)

    def test_table_for_what_is_no_tuple_of_lines(self):
        for value in NO_INTEGERS + [0, 1, HUGE, "ab", ((1,),) * 7, ((),) * 7, [(1,)], [[1]], {0: (1,)}, object()]:
            if value != (1,):
                self.check(value, (None, "table"))
        self.check([(1, 2), (3, 4)], (None, "table"))
        self.check(((1,),) * 3000, (None, "table"))
        self.check((None,) * 7, (None, "table"))

    def test_the_first_line(self):
        for line in NO_INTEGERS + [1, HUGE, "ab", [1], [], {0: 1}, (1,) * 17, (0,) * 3000, ((1,),), ([1],)]:
            if line not in ((), (1,)) or isinstance(line, list):
                self.check((line,), (0, "line"))
                self.check((line, (1,)), (0, "line"))
                self.check((line,) * 6, (0, "line"))
        for item in NO_INTEGERS + [MOST + 1, -MOST - 1, HUGE, -HUGE]:
            for place in range(3):
                self.check((changed((1, 2, 3), place, item), (1, 2, 3)), (0, "line"))
                self.check((changed((1,) * 16, 15 - place, item),), (0, "line"))

    def test_another_line(self):
        for many in range(2, 7):
            for index in range(1, many):
                for line in NO_INTEGERS + [
                    1, HUGE, "ab", [1, 2], {0: 1, 1: 2}, (), (1,), (1, 2, 3), (1,) * 16, (1,) * 17, (1, True),
                    (1, None), (1, "2"), (1.0, 2), ([1], 2), (MOST + 1, 1), (1, -MOST - 1), (HUGE, 0),
                ]:
                    self.check(changed(((1, 2),) * many, index, line), (index, "line"))
        for line in [(0,), (None,), None, []]:
            self.check(((), line), (1, "line"))

    def test_the_first_one_told_of_several(self):
        self.check([(1,) * 17], (None, "table"))
        self.check(([1],) * 7, (None, "table"))
        self.check(((1,) * 17, (1,)), (0, "line"))
        self.check(((1,) * 17,) * 2, (0, "line"))
        self.check(((True,), (1, 2)), (0, "line"))
        self.check(((1, 2), (1,), [1, 2], (1, MOST + 1)), (1, "line"))
        self.check(((1, 2), (3, 4), (1, MOST + 1), (1,)), (2, "line"))
        self.check(((1,), (1, 2), (1, 2)), (1, "line"))

    def test_other_values(self):
        for value in drawn.values():
            found = table_error(value)
            self.assertIn(found, [(None, "table"), (0, "line")])
            lines = type(value) is tuple and 1 <= len(value) <= 6
            self.check(value, (0, "line") if lines else (None, "table"))

    def test_what_is_passed_stays_as_it_was(self):
        for value in [[[1], [2]], ([1], [2]), ((1,), [2]), {"table": [1]}, ((1,), ([2],))]:
            before = copy.deepcopy(value)
            first = table_error(value)
            self.assertEqual(repr(value), repr(before))
            self.assertEqual(table_error(value), first)


class SharesError(unittest.TestCase):
    def check(self, table, value, expected):
        with self.subTest(f"{table!r:.60} {value!r:.150}"):
            found = shares_error(table, value)
            self.assertEqual(found, expected)
            if expected is not None:
                self.assertIs(type(found), tuple)
                self.assertIsNot(type(found[0]), bool)
            self.assertEqual(shares_error(table=table, value=value), expected)

    def test_none_for_shares(self):
        for table, shares in all_tables(42):
            self.check(table, shares, None)

    def test_none_just_within_the_bounds(self):
        for share in [(0, 1), (1, 1), (1, 2), (1, WIDE), (WIDE - 1, WIDE), (500000, WIDE), (1, 999983)]:
            self.check(((1, 2, 3),), (share,) * 3, None)
            self.check(((1,) * 16,) * 6, ((0, 1),) * 15 + (share,), None)
        self.check(((),), (), None)

    def test_shares_for_what_is_no_tuple_of_as_many(self):
        for value in NO_INTEGERS + [
            0, HUGE, H[:2], H + H[:1], H * 2, list(H), {0: (1, 2), 1: (1, 2), 2: (1, 2)}, "abc", [[1, 2]] * 3, object(),
            (H,), ((0, 1),) * 3000, [None] * 3,
        ]:
            self.check(W, value, (None, "shares"))
        for value in [((0, 1),), (None,), [], None, "", 0, False, {}, ((),)]:
            self.check(((),) * 2, value, (None, "shares"))

    def test_share_with_the_first_one_that_is_none(self):
        for item in NO_INTEGERS + [
            0, 1, HUGE, (1, 2, 3), [1, 2], [0, 1], (-1, 2), (-1, 1), (3, 2), (2, 1), (1000, 999), (2, 4), (0, 2),
            (2, 2), (WIDE, WIDE), (1, 0), (0, 0), (-1, -2), (1, -2), (0, -1), (1, 10 ** 6), (WIDE, 10 ** 6), (1, HUGE),
            (HUGE, HUGE + 1), (HUGE, 1), (-HUGE, 1), (1, -HUGE), (True, 1), (1, True), (True, True), (False, 1),
            (0, True), (None, 1), (1, None), ("1", "2"), (1.0, 2), (1, 2.0), ((1, 2),), ((1, 2), (1, 2)), {1: 2},
        ]:
            for place in range(3):
                self.check(W, changed(H, place, item), (place, "share"))
                self.check(W, ((0, 1),) * place + (item,) * (3 - place), (place, "share"))
            self.check(((5,) * 16,), ((1, 3),) * 15 + (item,), (15, "share"))

    def test_the_first_one_told_of_several(self):
        self.check(W, [(3, 2), (1, 2), (1, 2)], (None, "shares"))
        self.check(W, ((3, 2), (1, 2)), (None, "shares"))
        self.check(W, ((1, 2), (3, 2), (2, 4)), (1, "share"))
        self.check(W, ((2, 4), (3, 2), None), (0, "share"))

    def test_other_values(self):
        for value in drawn.values():
            self.check(((1,) * 16,), value, (None, "shares"))
            as_one = type(value) is tuple and len(value) == 1
            self.check(((1,),), value, (0, "share") if as_one else (None, "shares"))

    def test_what_is_passed_stays_as_it_was(self):
        for value in [[[1, 2]], ([1, 2], (1, 2), (1, 2)), {"shares": [1]}, ((1, 2), [1], (1, 2))]:
            before = copy.deepcopy(value)
            first = shares_error(W, value)
            self.assertEqual(repr(value), repr(before))
            self.assertEqual(shares_error(W, value), first)


class Errors(unittest.TestCase):
    def test_widest(self):
        for table, _ in all_tables(43):
            with self.subTest(f"{table!r:.150}"):
                self.assertEqual(widest(table), own_widest(table))
                self.assertIs(type(widest(table)), int)
                self.assertEqual(widest(table=table), own_widest(table))

    def test_widest_of_a_few(self):
        for table, expected in [
            (((),), 0), (((),) * 6, 0), (((0, 0),), 0), (((-7,),), 7), (((1, -9), (1, 1)), 10), (((3, 0), (-3, 5)), 6),
            (((MOST,) * 16,) * 6, 6 * MOST), (((-MOST, 1),) * 6, 6 * MOST),
        ]:
            self.assertEqual(widest(table), expected)

    def test_errors(self):
        rng = random.Random(1)
        for table, shares in all_tables(44):
            columns = len(table[0])
            roundings = [(0,) * columns, (1,) * columns, tuple(rng.randint(0, 1) for _ in range(columns))]
            for rounding in roundings:
                with self.subTest(f"{table!r:.80} {shares!r:.80} {rounding}"):
                    found = errors(table, shares, rounding)
                    self.assertEqual(found, tuple(told(part) for part in own_errors(table, shares, rounding)))
                    self.assertTrue(drawn.is_plain(found))
                    self.assertEqual(errors(table=table, shares=shares, rounding=rounding), found)

    def test_errors_of_a_few(self):
        for table, shares, rounding, expected in [
            (((),), (), (), ((0, 1),)), (((),) * 3, (), (), ((0, 1),) * 3), (((5,),), ((0, 1),), (1,), ((5, 1),)),
            (((5,),), ((1, 1),), (0,), ((-5, 1),)), (((5,), (-5,)), ((1, 3),), (1,), ((10, 3), (-10, 3))),
            (((2, 4),), ((1, 2), (1, 4)), (0, 0), ((-2, 1),)), (((1, 1),), ((1, 2), (1, 3)), (1, 0), ((1, 6),)),
            (((MOST,) * 16,), ((1, 2),) * 16, (1,) * 16, ((8 * MOST, 1),)),
        ]:
            with self.subTest(f"{table!r:.80} {rounding}"):
                self.assertEqual(errors(table, shares, rounding), expected)


class Rounded(unittest.TestCase):
    def test_it_is_near(self):
        for table, shares in all_tables(45):
            with self.subTest(f"{table!r:.100} {shares!r:.100}"):
                found = rounded(table, shares)
                self.assertTrue(drawn.is_plain(found))
                self.assertTrue(is_own_near(table, shares, found))
                self.assertIs(is_near(table, shares, found), True)
                self.assertEqual(rounded(table=table, shares=shares), found)

    def test_shares_of_0_and_1_stay(self):
        rng = random.Random(2)
        for table, _ in all_tables(46):
            rounding = tuple(rng.randint(0, 1) for _ in table[0])
            self.assertEqual(rounded(table, tuple((item, 1) for item in rounding)), rounding)
            half = tuple((item, 1) if rng.randrange(2) else (1, 2) for item in rounding)
            found = rounded(table, half)
            for item, share in zip(found, half):
                self.assertIn((item, 1), [share] if share != (1, 2) else [(0, 1), (1, 1)])

    def test_many_tables_whose_columns_are_all_as_wide(self):
        rng = random.Random(3)
        for _ in range(300):
            lines, columns = rng.randint(2, 6), rng.randint(7, 16)
            made = []
            for _ in range(columns):
                column = [1, 1] + [0] * (lines - 2)
                rng.shuffle(column)
                made.append([item * rng.choice((1, -1)) for item in column])
            table = tuple(tuple(column[line] for column in made) for line in range(lines))
            shares = drawn_shares(rng, columns)
            with self.subTest(f"{table} {shares}"):
                self.assertTrue(is_own_near(table, shares, rounded(table, shares)))
                self.assertEqual(widest(table), 2)

    def test_equal_calls_get_equal_results_and_quickly(self):
        rng = random.Random(4)
        for most in (1, MOST):
            table = drawn_table(rng, 6, 16, most)
            shares = tuple((prime // 3, prime) for prime in PRIMES)
            first = [rounded(table, shares), errors(table, shares, (1,) * 16), widest(table)]
            rounded(W, H)
            self.assertEqual([rounded(table, shares), errors(table, shares, (1,) * 16), widest(table)], first)
            for function, more in [
                (table_error, ()), (shares_error, (shares,)), (widest, ()), (errors, (shares, (0, 1) * 8)),
                (rounded, (shares,)), (is_near, (shares, first[0])),
            ]:
                self.assertLess(drawn.seconds(function, table, *more), drawn.SECONDS)


class Near(unittest.TestCase):
    def check(self, table, shares, value, expected):
        with self.subTest(f"{table!r:.60} {shares!r:.80} {value!r:.100}"):
            self.assertIs(is_near(table, shares, value), expected)
            self.assertIs(is_near(table=table, shares=shares, value=value), expected)

    def test_against_all_roundings(self):
        found = {True: 0, False: 0}
        for table, shares in all_tables(47):
            if len(shares) <= 6:
                for value in itertools.product((0, 1), repeat=len(shares)):
                    expected = is_own_near(table, shares, value)
                    self.assertIs(is_near(table, shares, value), expected)
                    found[expected] += 1
        self.assertGreater(min(found.values()), 1000)

    def test_whoever_made_it(self):
        rng = random.Random(5)
        for table, shares in all_tables(48):
            for _ in range(3):
                value = tuple(rng.randint(0, 1) if bottom > 1 else top for top, bottom in shares)
                self.check(table, shares, value, is_own_near(table, shares, value))

    def test_errors_just_at_and_just_below_the_widest(self):
        for bottom in (2, 3, 1000, WIDE):
            # Of two columns with an item of 1, one with a share of nearly 1.
            table, shares = ((1, 1),), ((bottom - 1, bottom), (1, bottom))
            self.check(table, shares, (0, 0), False)
            self.check(table, shares, (1, 1), False)
            self.check(table, shares, (1, 0), True)
            self.check(table, shares, (0, 1), True)
            self.check(((1,),), ((1, bottom),), (1,), True)
            self.check(((MOST, 1),), ((1, bottom), (0, 1)), (1, 0), True)
        three = ((1, 1, 1),)
        self.check(three, ((2, 3), (1, 3), (WIDE - 1, WIDE)), (0, 0, 1), True)
        self.check(three, ((2, 3), (1, 3), (WIDE - 1, WIDE)), (0, 0, 0), False)
        self.check(three, ((2, 3), (1, 3), (WIDE - 1, WIDE)), (1, 1, 0), True)
        self.check(three, ((2, 3), (1, 3), (1, WIDE)), (1, 1, 0), True)
        self.check(three, ((2, 3), (333332, WIDE), (0, 1)), (0, 0, 0), True)
        self.check(three, ((2, 3), (1, 3), (0, 1)), (0, 0, 0), False)
        self.check(three, ((2, 3), (333334, WIDE), (0, 1)), (0, 0, 0), False)
        self.check(((-1, -1, 1),), ((2, 3), (1, 3), (0, 1)), (0, 0, 0), False)
        self.check(((-1, 1, 1),), ((2, 3), (1, 3), (0, 1)), (0, 0, 0), True)

    def test_each_line_counts(self):
        table = ((1, 1, 0, 0), (0, 0, 1, 1), (0, 0, 0, 0))
        shares = ((1, 2),) * 4
        self.check(table, shares, (1, 0, 0, 1), True)
        self.check(table, shares, (1, 1, 0, 1), False)
        self.check(table, shares, (1, 0, 0, 0), False)
        self.check(table, shares, (1, 1, 0, 0), False)

    def test_noughts_and_no_columns(self):
        self.check(((0, 0),), ((1, 2), (0, 1)), (1, 0), True)
        self.check(((0, 0),), ((1, 2), (0, 1)), (0, 0), True)
        self.check(((0, 0),), ((1, 2), (0, 1)), (0, 1), False)
        self.check(((0, 0),), ((1, 2), (1, 1)), (0, 0), False)
        self.check(((),), (), (), True)
        self.check(((),) * 6, (), (), True)
        for value in [(0,), (1,), [], None, "", 0, False, {}, ((),)]:
            self.check(((),), (), value, False)

    def test_false_where_0_or_1_do_not_stay_though_the_errors_are_below(self):
        table = ((1, 0, 0), (0, 9, 0), (0, 0, 1))
        shares = ((0, 1), (1, 2), (1, 1))
        self.check(table, shares, (0, 1, 1), True)
        self.check(table, shares, (1, 1, 1), False)
        self.check(table, shares, (0, 1, 0), False)

    def test_false_for_other_items_and_lengths(self):
        for table, shares in [
            (W, H), (((0, 0),), ((1, 2), (1, 2))), (((1,),), ((1, 2),)), (((9, 0),), ((1, 2), (0, 1))),
        ]:
            value = rounded(table, shares)
            self.check(table, shares, value, True)
            for place in range(len(value)):
                for item in [2, -1, HUGE, -HUGE, None, True, False, "0", "1", (0,), [0], 0.0, 1.0, {}, (0, 1), (1, 1)]:
                    self.check(table, shares, changed(value, place, item), False)
            for other in [
                value[1:], value + (0,), value + (1,), (0,) + value, value * 2, list(value), {0: 0}, (value,), "01",
                tuple((item, 1) for item in value), value + (None,),
            ]:
                self.check(table, shares, other, False)

    def test_false_for_other_values(self):
        for value in drawn.values() + [0, 1, -1, HUGE, (0,), (1, 1), ((0, 0, 0),)]:
            self.check(W, H, value, False)
            self.check(((0,) * 16,), ((1, 2),) * 16, value, False)

    def test_what_is_passed_stays_as_it_was(self):
        for value in [[0, 1, 0], ([0], 1, 0), {"rounding": [0]}, (0, {1: [0]}, 0)]:
            before = copy.deepcopy(value)
            self.check(W, H, value, False)
            self.assertEqual(repr(value), repr(before))


class Best(unittest.TestCase):
    def test_against_all_roundings(self):
        several = 0
        for table, shares in all_tables(49):
            if len(shares) <= 8 and (len(shares) < 7 or len(table) % 2):
                with self.subTest(f"{table!r:.100} {shares!r:.100}"):
                    worst = {
                        rounding: max(abs(part) for part in own_errors(table, shares, rounding))
                        for rounding in itertools.product((0, 1), repeat=len(shares))
                    }
                    least = min(worst.values())
                    best = [rounding for rounding in worst if worst[rounding] == least]
                    several += len(best) > 1
                    found = best_rounded(table, shares)
                    self.assertEqual(found, min(best))
                    self.assertTrue(drawn.is_plain(found))
                    self.assertEqual(best_rounded(table=table, shares=shares), found)
        self.assertGreater(several, 100)

    def test_shares_of_0_and_1_may_be_rounded_otherwise(self):
        # With the 0 rounded up the error of 1/2 becomes one of 1/4.
        self.assertEqual(best_rounded(((3, 2),), ((1, 2), (0, 1))), (0, 1))
        self.assertEqual(best_rounded(((3, 2),), ((1, 2), (1, 1))), (1, 0))

    def test_more_than_eight_columns_are_too_many(self):
        rng = random.Random(6)
        for columns in (9, 10, 16):
            for lines in (1, 6):
                for shares in (((1, 2),) * columns, ((0, 1),) * columns):
                    table = drawn_table(rng, lines, columns, 9)
                    for error in (
                        drawn.caught(best_rounded, table, shares),
                        drawn.caught(best_rounded, table=table, shares=shares),
                    ):
                        self.assertIs(type(error), TooMany)
                        self.assertEqual(error.limit, 8)

    def test_equal_calls_get_equal_results_and_quickly(self):
        table = drawn_table(random.Random(7), 6, 8, MOST)
        shares = tuple((prime // 3, prime) for prime in PRIMES[:8])
        self.assertLess(drawn.seconds(best_rounded, table, shares), drawn.SECONDS)
        first = best_rounded(table, shares)
        best_rounded(W, H)
        self.assertEqual(best_rounded(table, shares), first)


class Examples(unittest.TestCase):
    def test_those_of_the_document(self):
        self.assertIsNone(table_error(W))
        self.assertEqual(table_error(((1,), (1, 2))), (1, "line"))
        self.assertEqual(shares_error(W, ((1, 2), (3, 2), (0, 1))), (1, "share"))
        self.assertEqual(widest(W), 2)
        self.assertEqual(errors(W, H, (1, 0, 0)), ((0, 1), (-1, 1)))
        self.assertIs(is_near(W, H, rounded(W, H)), True)
        self.assertIs(is_near(W, H, (0, 0, 0)), True)
        self.assertIs(is_near(((1,),), ((1, 2),), (2,)), False)
        self.assertEqual(best_rounded(W, H), (0, 1, 0))
        self.assertEqual(best_rounded(((1, 1),), ((1, 3), (1, 3))), (0, 1))


if __name__ == "__main__":
    unittest.main()
