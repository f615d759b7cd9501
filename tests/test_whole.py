"""A2: what holds over the whole program, sentence by sentence, and A3 of all functions together."""

import copy
import inspect
import itertools
import random
import unittest

import drawn
import models
import test_jobs
import test_tables
from drawn import E, F
from nearnought import beginnings, bests, chains, changes, desks, forms, jobs, parts, shells, signs, tables, texts
from nearnought.beginnings import height, is_even, sign_height, size
from nearnought.desks import Desk, EvenDesk

INTERFACE = {
    forms: {"load_error": "value", "is_order": "load value", "is_signs": "load value"},
    beginnings: {
        "size": "load", "is_even": "load", "begins": "load order", "height": "load order", "sign_begins": "load signs",
        "sign_height": "load signs",
    },
    texts: {"load_text": "load", "parse_load": "value"},
    chains: {
        "chain": "load", "chain_holds": "load value", "steady_order": "load", "narrowed": "load some weights",
    },
    bests: {
        "least_height": "load", "best_order": "load", "count_within": "load height", "order_at": "load height number",
        "number_of": "load height order", "bar": "load height", "bar_holds": "load height value",
    },
    signs: {
        "sign_paper": "load", "sign_paper_holds": "load value", "steady_signs": "load", "best_signs": "load",
        "along": "load order", "halved": "load order signs",
    },
    tables: {
        "table_error": "value", "shares_error": "table value", "widest": "table", "errors": "table shares rounding",
        "rounded": "table shares", "is_near": "table shares value", "best_rounded": "table shares",
    },
    parts: {"is_least": "load", "least_parts": "load", "most_parts": "load", "cut": "load order"},
    jobs: {
        "jobs_error": "value", "ends": "jobs order", "length": "jobs order", "busiest": "jobs", "longest": "jobs",
        "two_order": "jobs", "steady_jobs": "jobs", "best_jobs": "jobs", "long_way": "jobs order",
        "way_length": "jobs order places",
    },
    changes: {
        "joined": "one other", "beside": "one other", "negated": "load", "scaled": "load times",
        "of_kinds": "load places", "merged": "load index other_index", "parted": "load index row",
        "without": "load some",
    },
}
METHODS = {
    desks.Desk: {
        "__init__": "load", "add": "row", "drop": "index", "put": "index row", "settle": "", "batch": "edits",
        "undo": "", "at": "version", "copy": "", "attempt": "deeds on_step",
    },
    shells.Shell: {"__init__": "desk", "say": "line"},
}


class Interface(unittest.TestCase):
    def test_functions_and_their_arguments(self):
        for module, functions in INTERFACE.items():
            for name, arguments in functions.items():
                with self.subTest(f"{module.__name__} {name}"):
                    function = getattr(module, name)
                    self.assertEqual((function.__module__, function.__name__), (module.__name__, name))
                    self.assertEqual(list(inspect.signature(function).parameters), arguments.split())

    def test_methods_and_their_arguments(self):
        for cls, methods in METHODS.items():
            for name, arguments in methods.items():
                with self.subTest(f"{cls.__name__} {name}"):
                    told = list(inspect.signature(vars(cls)[name]).parameters)
                    self.assertEqual(told[1:], arguments.split())

    def test_all_holding_functions_tell_true_or_false_of_any_value(self):
        table, shares = test_tables.W, test_tables.H
        returned = [
            chains.chain(F), signs.sign_paper(F), bests.bar(F, 1), tables.rounded(table, shares), parts.least_parts(F),
            beginnings.begins(F, (0, 1, 2, 3, 4)), Desk(F), EvenDesk(E), shells.Shell(Desk(F)), Desk(F).copy(),
            test_jobs.J, changes.negated(F),
        ]
        for value in drawn.values() + returned + [list(returned), tuple(returned), {1: returned}]:
            before = repr(value)
            for found in [
                forms.is_order(F, value), forms.is_signs(F, value), chains.chain_holds(F, value),
                bests.bar_holds(F, 1, value), signs.sign_paper_holds(F, value), tables.is_near(table, shares, value),
                value in Desk(F), value in EvenDesk(E),
            ]:
                self.assertIs(type(found), bool)
            for told in [forms.load_error(value), tables.table_error(value), jobs.jobs_error(value),
                         tables.shares_error(table, value)]:
                self.assertIn(type(told), (tuple, type(None)))
            self.assertEqual(repr(value), before)

    def test_returned_values_pass_where_any_value_may(self):
        desk = Desk(F)
        for value in [Desk(E), EvenDesk(E), desk, shells.Shell(desk), chains.chain(F), desk.copy()]:
            for edit in [("add", value), ("drop", value), ("put", value, value), ("put", 0, value), ("batch", value),
                         ("batch", (value,)), ("batch", ((value,),)), ("batch", (("add", value),))]:
                told = models.told_by_desk(models.do, desk, edit)[0]
                self.assertIn(told, ("BadRow", "NoRow", "BadBatch", "Rejected"))
            self.assertEqual(models.told_by_desk(desk.attempt, value, None)[0], "BadBatch")
            self.assertEqual(models.told_by_desk(desk.at, value)[0], "NoVersion")
            self.assertEqual(models.told_by_desk(Desk, value)[0], "BadLoad")
            self.assertEqual(shells.Shell(desk).say(value), "what")
        self.assertEqual(desk.load, F)


class Whole(unittest.TestCase):
    def test_a_chains_and_sign_papers(self):
        for load in drawn.even_loads(101)[::3]:
            found = chains.chain(load)
            self.assertIs(chains.chain_holds(load, found), True)
            self.assertLessEqual(height(load, found[0]), load[0] * size(load))
        for load in drawn.loads(102)[::5]:
            found = signs.sign_paper(load)
            self.assertIs(signs.sign_paper_holds(load, found), True)
            self.assertLessEqual(sign_height(load, found[0]), 2 * load[0] * size(load))

    def test_b_halved(self):
        rng = random.Random(103)
        for load in drawn.even_loads(104)[::2]:
            many = len(load[1])
            for order in drawn.orders(rng, many):
                drawn_signs = tuple(rng.choice((1, -1)) for _ in range(many))
                for each in (drawn_signs, signs.steady_signs(signs.along(load, order))):
                    both = height(load, order) + sign_height(signs.along(load, order), each)
                    self.assertLessEqual(2 * height(load, signs.halved(load, order, each)), both)

    def test_c_bars(self):
        for load in drawn.even_loads(105, 6)[::2]:
            heights = {height(load, order) for order in itertools.permutations(range(len(load[1])))}
            least = min(heights)
            for high in sorted({0, max(least - 1, 0), least, least + 1, 10 ** 9} | heights):
                found = bests.bar(load, high)
                self.assertIs(found is None, high >= least)
                if found is not None:
                    self.assertIs(bests.bar_holds(load, high, found), True)
                else:
                    self.assertIs(bests.bar_holds(load, high, ((),)), False)

    def test_d_parts(self):
        rng = random.Random(106)
        for load in drawn.even_loads(107):
            for order in drawn.orders(rng, len(load[1])):
                most = (2 * height(load, order) + 1) ** load[0]
                for some in parts.cut(load, order):
                    self.assertLessEqual(len(some), most)
        for load in drawn.even_loads(108, 8):
            for some in parts.most_parts(load):
                self.assertIn(some, parts.least_parts(load))
                self.assertIs(parts.is_least((load[0], tuple(load[1][index] for index in some))), True)

    def test_e_rounded(self):
        for table, shares in test_tables.all_tables(109):
            for top, bottom in tables.errors(table, shares, tables.rounded(table, shares)):
                self.assertTrue(top == 0 or abs(top) < tables.widest(table) * bottom)

    def test_f_jobs(self):
        for each in test_jobs.all_jobs(110):
            machines = len(each[0]) if each else 2
            bound = jobs.busiest(each) + machines * (machines - 1) * jobs.longest(each)
            self.assertLessEqual(jobs.length(each, jobs.steady_jobs(each)), bound)
            if machines == 2 and len(each) <= 7:
                self.assertEqual(
                    jobs.length(each, jobs.two_order(each)), jobs.length(each, jobs.best_jobs(each))
                )

    def test_f_no_order_on_two_machines_is_shorter(self):
        rng = random.Random(111)
        for _ in range(60):
            each = test_jobs.drawn_jobs(rng, 2, rng.randint(1, 5), rng.choice((2, 9)))
            least = min(jobs.length(each, order) for order in itertools.permutations(range(len(each))))
            self.assertEqual(jobs.length(each, jobs.two_order(each)), least)

    def test_g_orders_turned_about_and_loads_negated(self):
        rng = random.Random(112)
        for load in drawn.even_loads(113):
            for order in drawn.orders(rng, len(load[1])):
                self.assertEqual(height(load, order[::-1]), height(load, order))
                self.assertEqual(height(changes.negated(load), order), height(load, order))
            self.assertIs(is_even(changes.negated(load)), True)
        for load in drawn.even_loads(114, 5)[::3]:
            self.assertEqual(bests.least_height(changes.negated(load)), bests.least_height(load))
            self.assertEqual(bests.best_order(changes.negated(load)), bests.best_order(load))

    def test_h_texts_and_edits(self):
        rng = random.Random(115)
        for load in drawn.loads(116)[::4]:
            self.assertEqual(texts.parse_load(texts.load_text(load)), load)
            desk = Desk(load)
            before = models.looks(desk)
            for _ in range(10):
                models.told_by_desk(models.do, desk, models.drawn_edit(rng, desk.load, True))
                self.assertEqual(texts.parse_load(str(desk)), desk.load)
            while desk.version:
                desk.undo()
            self.assertEqual(models.looks(desk), before)

    def test_what_was_returned_never_changes_later(self):
        desk = Desk(F)
        kept = [chains.chain(F), signs.sign_paper(F), bests.bar(F, 1), parts.least_parts(F), desk.load]
        before = copy.deepcopy(kept)
        desk.attempt((("drop", 0), ("settle",)), look_on)
        shells.Shell(desk).say("undo")
        for load in (E, F, (4, ((0, 0, 0, 0),) * 8)):
            chains.chain(load), signs.sign_paper(load), bests.bar(load, 1), parts.least_parts(load)
        self.assertEqual(kept, before)


def look_on(desk):
    """What an on_step may do that looks on."""
    return chains.chain(desk.load) if desk else signs.sign_paper(desk.load)


if __name__ == "__main__":
    unittest.main()
