"""H1, H2 and H3: jobs, when they are done, and orders in which that is soon; A2 (f)."""

import copy
import itertools
import random
import unittest

import drawn
from drawn import MOST, changed
from nearnought import jobs as module
from nearnought.errors import NoJobs, NotTwo, TooMany
from nearnought.jobs import (
    best_jobs, busiest, ends, jobs_error, length, long_way, longest, steady_jobs, two_order, way_length,
)

NAMES = (
    "jobs_error", "ends", "length", "busiest", "longest", "two_order", "steady_jobs", "best_jobs", "long_way",
    "way_length",
)
J = ((3, 2), (1, 4), (2, 1))
HUGE = 10 ** 399
NO_INTEGERS = [None, True, False, "", "1", (), (1,), [], [1], {}, {1: 1}, 1.0, 0.0]


def drawn_jobs(rng, machines, many, most):
    return tuple(tuple(rng.randint(0, most) for _ in range(machines)) for _ in range(many))


def all_jobs(seed, most_jobs=12):
    """Jobs on 2 to 4 machines: none to twelve, small and great, alike, and long on one machine each."""
    rng = random.Random(seed)
    found = [(), J]
    for machines in range(2, 5):
        for many in range(1, most_jobs + 1):
            for most in (0, 1, 4, 30, MOST):
                found.append(drawn_jobs(rng, machines, many, most))
            found.append(((7,) * machines,) * many)
            for long in (9, MOST):
                found.append(tuple(
                    tuple(long if machine == k % machines else rng.randint(0, 1) for machine in range(machines))
                    for k in range(many)
                ))
                found.append(tuple(
                    tuple(long if machine == rng.randrange(machines) else 0 for machine in range(machines))
                    for _ in range(many)
                ))
            found.append(tuple(tuple(range(k, k + machines)) for k in range(many)))
            found.append(tuple(tuple(range(k + machines, k, -1)) for k in range(many)))
    return found


def own_ends(jobs, order):
    """When each job is done, in the order's order: each machine looked at by itself, job by job."""
    machines = len(jobs[0]) if jobs else 2
    told = {}
    for machine in range(machines):
        free = 0
        for index in order:
            come = told[index, machine - 1] if machine else 0
            free = max(free, come) + jobs[index][machine]
            told[index, machine] = free
    return tuple(tuple(told[index, machine] for machine in range(machines)) for index in order)


def own_length(jobs, order):
    return max([max(done) for done in own_ends(jobs, order)], default=0)


def own_places(machines, many):
    """All places, ascending or alike, for one machine less."""
    return list(itertools.combinations_with_replacement(range(many), machines - 1))


def own_way(jobs, order, places):
    """The sum on the way: for each job of the order the machines on which it is passed."""
    bounds = (0,) + places + (len(order) - 1,)
    total = 0
    for at, index in enumerate(order):
        for machine, amount in enumerate(jobs[index]):
            if bounds[machine] <= at <= bounds[machine + 1]:
                total += amount
    return total


class JobsError(unittest.TestCase):
    def check(self, value, expected):
        with self.subTest(repr(value)[:150]):
            found = jobs_error(value)
            self.assertEqual(found, expected)
            if expected is not None:
                self.assertIs(type(found), tuple)
                self.assertIsNot(type(found[0]), bool)
            self.assertEqual(jobs_error(value=value), expected)

    def test_they_are_defined_in_their_module(self):
        for name in NAMES:
            self.assertEqual(getattr(module, name).__module__, "nearnought.jobs")

    def test_none_for_jobs(self):
        for jobs in all_jobs(61):
            self.check(jobs, None)

    def test_none_just_within_the_bounds(self):
        self.check((), None)
        for machines in (2, 3, 4):
            self.check(((0,) * machines,), None)
            self.check(((MOST,) * machines,) * 12, None)
            self.check(((0,) * (machines - 1) + (MOST,),) * 12, None)

    def test_jobs_for_what_is_no_tuple_of_so_few(self):
        for value in NO_INTEGERS + [0, 1, HUGE, "ab", [(1, 2)], [[1, 2]], {0: (1, 2)}, object(), (None,) * 13]:
            if value not in ((), (1,)) or isinstance(value, list):
                self.check(value, (None, "jobs"))
        for many in (13, 14, 3000):
            self.check(((1, 2),) * many, (None, "jobs"))
        self.check(list(J), (None, "jobs"))

    def test_the_first_job(self):
        for job in NO_INTEGERS + [
            1, HUGE, "ab", [1, 2], {0: 1, 1: 2}, (1,), (1,) * 5, (1,) * 3000, ((1, 2),), ((1,), (2,)), ([1], 2), (0,),
        ]:
            self.check((job,), (0, "job"))
            self.check((job, (1, 2)), (0, "job"))
            self.check((job,) * 12, (0, "job"))
        for item in NO_INTEGERS + [-1, -MOST, MOST + 1, HUGE, -HUGE]:
            for place in range(3):
                self.check((changed((1, 2, 3), place, item), (1, 2, 3)), (0, "job"))
                self.check((changed((1,) * 4, 3 - place, item),), (0, "job"))

    def test_another_job(self):
        for many in (2, 3, 12):
            for index in range(1, many):
                for job in NO_INTEGERS + [
                    1, HUGE, "ab", [1, 2], {0: 1, 1: 2}, (), (1,), (1, 2, 3), (1, 2, 3, 4), (1, True), (False, 1),
                    (1, None), (1, "2"), (1.0, 2), ([1], 2), (MOST + 1, 1), (1, -1), (HUGE, 0), (-HUGE, 0),
                ]:
                    self.check(changed(((1, 2),) * many, index, job), (index, "job"))
        self.check(((1, 2, 3), (1, 2)), (1, "job"))
        self.check(((1, 2, 3, 4), (1, 2, 3, 4, 5)), (1, "job"))

    def test_the_first_one_told_of_several(self):
        self.check([(1,)] * 13, (None, "jobs"))
        self.check(((1,),) * 13, (None, "jobs"))
        self.check(((1,), (1, -1)), (0, "job"))
        self.check(((1, -1), (1,)), (0, "job"))
        self.check(((1, 2), (1, -1), (1,), None), (1, "job"))
        self.check(((1, 2), (1, 1), (1,), (1, -1)), (2, "job"))
        self.check(((1, 2), (1, 2, 3), (1, 2, 3)), (1, "job"))

    def test_other_values(self):
        for value in drawn.values():
            few = type(value) is tuple and len(value) <= 12
            self.check(value, (0, "job") if few else (None, "jobs"))

    def test_what_is_passed_stays_as_it_was(self):
        for value in [[[1, 2]], ([1, 2],), ((1, 2), [2, 3]), {"jobs": [1]}, ((1, 2), ([2], 3))]:
            before = copy.deepcopy(value)
            first = jobs_error(value)
            self.assertEqual(repr(value), repr(before))
            self.assertEqual(jobs_error(value), first)


class Lengths(unittest.TestCase):
    def test_ends_and_length(self):
        rng = random.Random(1)
        for jobs in all_jobs(62):
            for order in drawn.orders(rng, len(jobs)):
                with self.subTest(f"{jobs!r:.150} {order}"):
                    expected = own_ends(jobs, order)
                    self.assertEqual(ends(jobs, order), expected)
                    self.assertTrue(drawn.is_plain(ends(jobs, order)))
                    self.assertEqual(ends(jobs=jobs, order=order), expected)
                    self.assertEqual(length(jobs, order), own_length(jobs, order))
                    self.assertIs(type(length(jobs, order)), int)
                    self.assertEqual(length(jobs=jobs, order=order), own_length(jobs, order))

    def test_busiest_and_longest(self):
        for jobs in all_jobs(63):
            with self.subTest(f"{jobs!r:.150}"):
                work = max([sum(job[machine] for job in jobs) for machine in range(len(jobs[0]))]) if jobs else 0
                self.assertEqual(busiest(jobs), work)
                self.assertEqual(busiest(jobs=jobs), work)
                most = max([amount for job in jobs for amount in job], default=0)
                self.assertEqual(longest(jobs), most)
                self.assertEqual(longest(jobs=jobs), most)
                self.assertIs(type(busiest(jobs)), int)
                self.assertIs(type(longest(jobs)), int)

    def test_without_jobs(self):
        self.assertEqual([ends((), ()), length((), ()), busiest(()), longest(())], [(), 0, 0, 0])

    def test_a_few(self):
        three = ((1, 2, 3), (3, 2, 1))
        self.assertEqual(ends(three, (0, 1)), ((1, 3, 6), (4, 6, 7)))
        self.assertEqual(ends(three, (1, 0)), ((3, 5, 6), (4, 7, 10)))
        self.assertEqual([length(three, (0, 1)), length(three, (1, 0))], [7, 10])
        self.assertEqual([busiest(((1, 2, 9), (3, 2, 1))), longest(((1, 2, 3), (3, 8, 1)))], [10, 8])
        self.assertEqual(ends(((0, 5), (5, 0)), (0, 1)), ((0, 5), (5, 5)))
        full = ((MOST,) * 4,) * 12
        self.assertEqual(length(full, tuple(range(12))), 15 * MOST)
        self.assertEqual([busiest(full), longest(full)], [12 * MOST, MOST])


class Orders(unittest.TestCase):
    def check_order(self, jobs, order):
        self.assertIs(type(order), tuple)
        self.assertTrue(drawn.is_plain(order))
        self.assertEqual(sorted(order), list(range(len(jobs))))

    def test_two_order_against_all_orders(self):
        rng = random.Random(2)
        found = [jobs for jobs in all_jobs(64, 6) if not jobs or len(jobs[0]) == 2]
        for many in range(1, 7):
            for most in (1, 2, 3, 5, 20, 100):
                found += [drawn_jobs(rng, 2, many, most) for _ in range(4)]
        for jobs in found:
            with self.subTest(jobs):
                order = two_order(jobs)
                self.check_order(jobs, order)
                least = min(own_length(jobs, other) for other in itertools.permutations(range(len(jobs))))
                self.assertEqual(own_length(jobs, order), least)
                self.assertEqual(two_order(jobs=jobs), order)

    def test_two_order_of_many_jobs(self):
        rng = random.Random(3)
        for jobs in all_jobs(65):
            if jobs and len(jobs[0]) == 2:
                order = two_order(jobs)
                self.check_order(jobs, order)
                for _ in range(20):
                    other = tuple(rng.sample(range(len(jobs)), len(jobs)))
                    self.assertLessEqual(own_length(jobs, order), own_length(jobs, other))

    def test_two_order_of_other_machines(self):
        self.assertEqual(two_order(()), ())
        for jobs in all_jobs(66):
            if jobs and len(jobs[0]) > 2:
                for error in (drawn.caught(two_order, jobs), drawn.caught(two_order, jobs=jobs)):
                    self.assertIs(type(error), NotTwo)
                    self.assertEqual(error.machines, len(jobs[0]))

    def test_steady_jobs(self):
        rng = random.Random(4)
        more = [drawn_jobs(rng, rng.randint(2, 4), rng.randint(1, 12), rng.choice((1, 3, 50))) for _ in range(300)]
        for jobs in all_jobs(67) + more:
            with self.subTest(f"{jobs!r:.150}"):
                order = steady_jobs(jobs)
                self.check_order(jobs, order)
                machines = len(jobs[0]) if jobs else 2
                bound = busiest(jobs) + machines * (machines - 1) * longest(jobs)
                self.assertLessEqual(own_length(jobs, order), bound)
                self.assertEqual(steady_jobs(jobs=jobs), order)

    def test_steady_jobs_where_other_orders_are_far_too_long(self):
        # Six jobs are long on the first machine and six on the last one: that may take 12 * MOST.
        two = ((MOST, 0),) * 6 + ((0, MOST),) * 6
        self.assertEqual(own_length(two, tuple(range(12))), 12 * MOST)
        self.assertLessEqual(own_length(two, steady_jobs(two)), 8 * MOST)
        turned = two[::-1]
        self.assertLessEqual(own_length(turned, steady_jobs(turned)), 8 * MOST)
        mixed = ((MOST, 0), (MOST, 0), (0, MOST)) * 4
        self.assertLessEqual(own_length(mixed, steady_jobs(mixed)), 10 * MOST)

    def test_best_jobs_against_all_orders(self):
        several = 0
        for jobs in all_jobs(68, 6) + all_jobs(69, 7)[-13:]:
            with self.subTest(jobs):
                lengths = {order: own_length(jobs, order) for order in itertools.permutations(range(len(jobs)))}
                least = min(lengths.values())
                best = [order for order in lengths if lengths[order] == least]
                several += len(best) > 1
                self.assertEqual(best_jobs(jobs), best[0])
                self.assertTrue(drawn.is_plain(best_jobs(jobs)))
                self.assertEqual(best_jobs(jobs=jobs), best[0])
        self.assertGreater(several, 50)
        self.assertEqual(best_jobs(()), ())

    def test_best_jobs_of_more_than_seven(self):
        for machines in (2, 3, 4):
            for many in (8, 9, 12):
                jobs = drawn_jobs(random.Random(many), machines, many, 9)
                for error in (drawn.caught(best_jobs, jobs), drawn.caught(best_jobs, jobs=jobs)):
                    self.assertIs(type(error), TooMany)
                    self.assertEqual(error.limit, 7)

    def test_equal_calls_get_equal_results_and_quickly(self):
        rng = random.Random(5)
        seven, twelve, two = (drawn_jobs(rng, *more) for more in [(4, 7, MOST), (4, 12, MOST), (2, 12, MOST)])
        order = tuple(range(12))
        calls = [
            (best_jobs, (seven,)), (steady_jobs, (twelve,)), (two_order, (two,)), (ends, (twelve, order)),
            (length, (twelve, order)), (long_way, (twelve, order)), (way_length, (twelve, order, (3, 3, 9))),
            (busiest, (twelve,)), (longest, (twelve,)), (jobs_error, (twelve,)), (best_jobs, (((0,) * 4,) * 7,)),
        ]
        first = [function(*more) for function, more in calls]
        for function, more in calls:
            self.assertLess(drawn.seconds(function, *more), drawn.SECONDS)
        best_jobs(J), steady_jobs(J), two_order(J), long_way(J, (0, 1, 2))
        self.assertEqual([function(*more) for function, more in calls], first)


class Ways(unittest.TestCase):
    def test_way_length_over_all_places(self):
        rng = random.Random(6)
        for jobs in all_jobs(70, 6):
            if jobs:
                for order in drawn.orders(rng, len(jobs), 1):
                    with self.subTest(f"{jobs} {order}"):
                        lengths = {}
                        for places in own_places(len(jobs[0]), len(jobs)):
                            lengths[places] = own_way(jobs, order, places)
                            self.assertEqual(way_length(jobs, order, places), lengths[places])
                        self.assertEqual(max(lengths.values()), own_length(jobs, order))
                        places = long_way(jobs, order)
                        self.assertEqual(lengths[places], max(lengths.values()))
                        self.assertIs(type(way_length(jobs, order, places)), int)
                        self.assertEqual(
                            way_length(jobs=jobs, order=order, places=places), way_length(jobs, order, places)
                        )

    def test_long_way(self):
        rng = random.Random(7)
        for jobs in all_jobs(71):
            for order in drawn.orders(rng, len(jobs)) if jobs else []:
                with self.subTest(f"{jobs!r:.150} {order}"):
                    places = long_way(jobs, order)
                    self.assertIs(type(places), tuple)
                    self.assertTrue(drawn.is_plain(places))
                    self.assertEqual(len(places), len(jobs[0]) - 1)
                    self.assertEqual(places, tuple(sorted(places)))
                    self.assertTrue(0 <= places[0] and places[-1] < len(jobs))
                    self.assertEqual(own_way(jobs, order, places), own_length(jobs, order))
                    self.assertEqual(long_way(jobs=jobs, order=order), places)

    def test_a_few(self):
        three = ((1, 2, 3), (3, 2, 1))
        for order, places, expected in [
            ((0, 1), (0, 0), 7), ((0, 1), (0, 1), 6), ((0, 1), (1, 1), 7), ((1, 0), (0, 0), 9), ((1, 0), (0, 1), 10),
            ((1, 0), (1, 1), 9),
        ]:
            self.assertEqual(way_length(three, order, places), expected)
        self.assertEqual(long_way(three, (1, 0)), (0, 1))
        one = ((5, 6, 7, 8),)
        self.assertEqual([long_way(one, (0,)), way_length(one, (0,), (0, 0, 0))], [(0, 0, 0), 26])

    def test_no_jobs(self):
        for error in (drawn.caught(long_way, (), ()), drawn.caught(long_way, jobs=(), order=())):
            self.assertIs(type(error), NoJobs)


class Examples(unittest.TestCase):
    def test_those_of_the_document(self):
        self.assertEqual([jobs_error(J), jobs_error(((1, 2), (1, -2)))], [None, (1, "job")])
        self.assertEqual(ends(J, (0, 1, 2)), ((3, 5), (4, 9), (6, 10)))
        self.assertEqual([length(J, (0, 1, 2)), busiest(J), longest(J)], [10, 7, 4])
        self.assertEqual([length(J, two_order(J)), best_jobs(J)], [8, (1, 0, 2)])
        self.assertLessEqual(length(J, steady_jobs(J)), 15)
        self.assertEqual([way_length(J, (0, 1, 2), (0,)), way_length(J, (0, 1, 2), (2,))], [10, 7])
        self.assertEqual(long_way(J, (0, 1, 2)), (0,))
        self.assertEqual(length((), ()), 0)
        error = drawn.caught(two_order, ((1, 1, 1),))
        self.assertIs(type(error), NotTwo)
        self.assertEqual(error.machines, 3)


if __name__ == "__main__":
    unittest.main()
