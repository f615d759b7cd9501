"""G1 and G2: least even parts, partings with the most parts, and loads cut along an order; A2 (d)."""

import copy
import itertools
import random
import unittest

import drawn
from drawn import E, F, MOST
from nearnought import parts
from nearnought.beginnings import height, is_even
from nearnought.errors import TooMany, Uneven
from nearnought.parts import cut, is_least, least_parts, most_parts

NAMES = ("is_least", "least_parts", "most_parts", "cut")
Z = (1, ((1,), (-1,), (2,), (-2,), (0,)))


def joined_rows(rng, kinds, counts, most):
    """The rows of even loads with so many rows each, in any order."""
    rows = [row for many in counts for row in drawn.even_load(rng, kinds, many, most)[1]]
    rng.shuffle(rows)
    return (kinds, tuple(rows))


def short_loads(seed):
    """Loads of up to eight rows: put together of even ones, equal rows, noughts, and others."""
    rng = random.Random(seed)
    found = list(drawn.even_loads(seed, 8))
    for kinds in range(1, 5):
        for counts in [
            (2, 2), (2, 2, 2), (2, 2, 2, 2), (3, 2), (3, 3, 2), (4, 4), (5, 3), (1, 2, 3), (1, 1, 4), (3, 5),
        ]:
            for most in (1, 5, MOST):
                found.append(joined_rows(rng, kinds, counts, most))
        row, less = (2, -1, 0, 3)[:kinds], (-2, 1, 0, -3)[:kinds]
        found += [(kinds, (row, less) * half) for half in range(5)]
        found += [(kinds, (row,) * half + (less,) * half) for half in range(5)]
        for many in range(9):
            for most in (1, 2, 9):
                found.append(drawn.load(rng, kinds, many, most))
    return found


def comes_to_nought(load, some):
    return all(sum(load[1][index][kind] for index in some) == 0 for kind in range(load[0]))


def own_even_parts(load):
    """All even parts, by a search through all sets of rows."""
    many = len(load[1])
    every = [some for count in range(1, many + 1) for some in itertools.combinations(range(many), count)]
    return [some for some in every if comes_to_nought(load, some)]


def own_least_parts(load):
    even = own_even_parts(load)
    return tuple(sorted(
        some for some in even if not any(set(other) < set(some) for other in even)
    ))


def own_most(load):
    """How many parts an even parting has at most."""
    even = own_even_parts(load)
    known = {(): 0}

    def most(left):
        if left not in known:
            known[left] = max(
                [1 + most(tuple(index for index in left if index not in some))
                 for some in even if some[0] == left[0] and set(some) <= set(left)
                 and comes_to_nought(load, [index for index in left if index not in some])]
            )
        return known[left]

    return most(tuple(range(len(load[1]))))


def own_cut(load, order):
    """The parts, by the document's words: after each row the fewest topmost ones that come to a nought."""
    heap, found = [], []
    for index in order:
        heap.append(index)
        for count in range(1, len(heap) + 1):
            if comes_to_nought(load, heap[-count:]):
                found.append(tuple(sorted(heap[-count:])))
                del heap[-count:]
                break
    return tuple(found), heap


class Parts(unittest.TestCase):
    def test_they_are_defined_in_their_module(self):
        for name in NAMES:
            self.assertEqual(getattr(parts, name).__module__, "nearnought.parts")

    def test_least_parts_and_is_least(self):
        least = {True: 0, False: 0}
        for load in short_loads(51):
            with self.subTest(drawn.shown(load)):
                expected = own_least_parts(load)
                found = least_parts(load)
                self.assertEqual(found, expected)
                self.assertTrue(drawn.is_plain(found))
                self.assertEqual(least_parts(load=load), expected)
                told = tuple(range(len(load[1]))) in expected
                least[told] += 1
                self.assertIs(is_least(load), told)
                self.assertIs(is_least(load=load), told)
        self.assertGreater(min(least.values()), 50)

    def test_most_parts(self):
        for load in short_loads(52):
            if is_even(load):
                with self.subTest(drawn.shown(load)):
                    found = most_parts(load)
                    self.assertTrue(drawn.is_plain(found))
                    self.assertIs(type(found), tuple)
                    self.assertEqual(found, tuple(sorted(found)))
                    self.assertEqual(sorted(index for some in found for index in some), list(range(len(load[1]))))
                    self.assertEqual(len(found), own_most(load))
                    least = own_least_parts(load)
                    for some in found:
                        self.assertIn(some, least)
                    self.assertEqual(most_parts(load=load), found)

    def test_loads_that_are_not_even(self):
        self.assertEqual(least_parts((1, ((1,), (-1,), (5,)))), ((0, 1),))
        self.assertEqual(least_parts((1, ((1,), (2,)))), ())
        self.assertIs(is_least((1, ((1,), (-1,), (5,)))), False)
        self.assertIs(is_least((1, ((1,),))), False)
        uneven = [load for load in short_loads(53) if not is_even(load)]
        self.assertGreater(len(uneven), 50)
        for load in uneven + [load for load in drawn.UNEVEN if len(load[1]) <= 8]:
            for error in (drawn.caught(most_parts, load), drawn.caught(most_parts, load=load)):
                self.assertIs(type(error), Uneven)
            self.assertEqual(least_parts(load), own_least_parts(load))
            self.assertIs(is_least(load), False)

    def test_without_rows_with_noughts_and_with_pairs(self):
        for kinds in range(1, 5):
            self.assertIs(is_least((kinds, ())), False)
            self.assertEqual(least_parts((kinds, ())), ())
            self.assertEqual(most_parts((kinds, ())), ())
            self.assertIs(is_least((kinds, ((0,) * kinds,))), True)
            self.assertIs(is_least((kinds, ((0,) * kinds,) * 2)), False)
            for many in range(1, 9):
                single = tuple((index,) for index in range(many))
                self.assertEqual(least_parts((kinds, ((0,) * kinds,) * many)), single)
                self.assertEqual(most_parts((kinds, ((0,) * kinds,) * many)), single)
        pairs = (1, ((1,), (1,), (-1,), (-1,)))
        self.assertEqual(least_parts(pairs), ((0, 2), (0, 3), (1, 2), (1, 3)))
        self.assertIs(is_least((1, ((1,),) * 7 + ((-7,),))), True)
        self.assertEqual(most_parts((1, ((1,),) * 7 + ((-7,),))), (tuple(range(8)),))

    def test_the_most_parts_may_do_without_the_first_least_part(self):
        load = (1, ((1,), (2,), (-3,), (-1,), (-2,), (3,)))
        self.assertEqual(least_parts(load)[0], (0, 1, 2))
        self.assertEqual(most_parts(load), ((0, 3), (1, 4), (2, 5)))
        load = (1, ((1,), (2,), (-3,), (0,), (-1,), (3,), (-2,), (0,)))
        self.assertEqual(most_parts(load), ((0, 4), (1, 6), (2, 5), (3,), (7,)))

    def test_too_many(self):
        rng = random.Random(1)
        for kinds in range(1, 5):
            for many in (9, 10, 23, 24):
                even = drawn.even_load(rng, kinds, many, 9)
                other = (kinds, ((1,) * kinds,) + ((0,) * kinds,) * (many - 1))
                calls = [(is_least, even), (is_least, other), (least_parts, even), (least_parts, other)]
                for function, load in calls + [(most_parts, even)]:
                    for error in (drawn.caught(function, load), drawn.caught(function, load=load)):
                        self.assertIs(type(error), TooMany)
                        self.assertEqual(error.limit, 8)
                for error in (drawn.caught(most_parts, other), drawn.caught(most_parts, load=other)):
                    self.assertIs(type(error), Uneven)
        for load in drawn.UNEVEN:
            self.assertIs(type(drawn.caught(most_parts, load)), Uneven)

    def test_equal_calls_get_equal_results_and_quickly(self):
        load = joined_rows(random.Random(2), 2, (2, 2, 2, 2), 3)
        functions = (is_least, least_parts, most_parts)
        first = [function(load) for function in functions]
        for other in [(4, ((0,) * 4,) * 8), (1, ((MOST,), (-MOST,)) * 4), E]:
            before = copy.deepcopy(other)
            for function in functions:
                self.assertLess(drawn.seconds(function, other), drawn.SECONDS)
            self.assertEqual(other, before)
        self.assertEqual([function(load) for function in functions], first)


class Cut(unittest.TestCase):
    def test_by_the_words_of_the_document(self):
        rng = random.Random(3)
        wide = 0
        for load in drawn.even_loads(54) + short_loads(55) + self.long_loads(rng):
            if is_even(load):
                for order in drawn.orders(rng, len(load[1])):
                    with self.subTest(f"{drawn.shown(load)} {order}"):
                        expected, heap = own_cut(load, order)
                        self.assertEqual(heap, [])
                        found = cut(load, order)
                        self.assertEqual(found, expected)
                        self.assertTrue(drawn.is_plain(found))
                        self.assertEqual(cut(load=load, order=order), expected)
                        self.assertEqual(sorted(sum(found, ())), list(range(len(load[1]))))
                        most = (2 * height(load, order) + 1) ** load[0]
                        self.assertTrue(all(len(some) <= most for some in found))
                        wide += len(found) > 3
        self.assertGreater(wide, 100)

    def long_loads(self, rng):
        """Even loads of many rows that are put together of few and small ones."""
        found = []
        for kinds in range(1, 5):
            for counts in [(2,) * 12, (3,) * 8, (4, 1, 5, 2, 6, 1), (8, 8, 8), (2, 2, 2, 1, 1, 1, 10), (1,) * 24]:
                for most in (1, 3):
                    found.append(joined_rows(rng, kinds, counts, most))
        return found

    def test_parts_within_parts(self):
        load = (1, ((1,), (2,), (4,), (-4,), (-2,), (-1,), (0,)))
        self.assertEqual(cut(load, (0, 1, 2, 3, 4, 5, 6)), ((2, 3), (1, 4), (0, 5), (6,)))
        self.assertEqual(cut(load, (0, 6, 1, 2, 4, 3, 5)), ((6,), (1, 2, 3, 4), (0, 5)))
        self.assertEqual(cut(load, (5, 4, 3, 6, 0, 1, 2)), ((6,), (0, 1, 2, 3, 4, 5)))
        self.assertEqual(cut(load, (0, 5, 1, 4, 2, 3, 6)), ((0, 5), (1, 4), (2, 3), (6,)))

    def test_one_part_pairs_and_noughts(self):
        pairs = tuple((index, index + 1) for index in range(0, 24, 2))
        self.assertEqual(cut((1, ((1,), (-1,)) * 12), tuple(range(24))), pairs)
        load = (2, ((1, 0), (0, 1), (-1, 0), (0, -1)))
        self.assertEqual(cut(load, (0, 1, 2, 3)), ((0, 1, 2, 3),))
        self.assertEqual(cut((3, ((0, 0, 0),) * 24), tuple(range(24))), tuple((index,) for index in range(24)))
        self.assertEqual(cut((4, ()), ()), ())

    def test_uneven_however_many_rows(self):
        for load in drawn.UNEVEN:
            for order in drawn.orders(random.Random(4), len(load[1])):
                for error in (drawn.caught(cut, load, order), drawn.caught(cut, load=load, order=order)):
                    self.assertIs(type(error), Uneven)

    def test_equal_calls_get_equal_results_and_quickly(self):
        load = joined_rows(random.Random(5), 4, (8, 8, 8), 2)
        order = tuple(range(24))
        first = cut(load, order)
        self.assertLess(drawn.seconds(cut, (1, ((MOST,),) * 12 + ((-MOST,),) * 12), order), drawn.SECONDS)
        self.assertEqual(cut(load, order), first)


class Examples(unittest.TestCase):
    def test_those_of_the_document(self):
        self.assertEqual([is_least(E), is_least(F), is_least(Z)], [True, True, False])
        self.assertEqual(least_parts(Z), ((0, 1), (2, 3), (4,)))
        self.assertEqual(most_parts(Z), ((0, 1), (2, 3), (4,)))
        self.assertEqual(least_parts((1, ())), ())
        self.assertEqual(cut(Z, (0, 2, 3, 4, 1)), ((2, 3), (4,), (0, 1)))
        self.assertEqual(cut(Z, (0, 2, 1, 3, 4)), ((0, 1, 2, 3), (4,)))
        pairs = (1, ((1,), (1,), (-1,), (-1,)))
        self.assertIn(most_parts(pairs), (((0, 2), (1, 3)), ((0, 3), (1, 2))))


if __name__ == "__main__":
    unittest.main()
