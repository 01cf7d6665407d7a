"""What the document promises over the whole program: its interface, 0.2 and 0.3."""

import importlib
import inspect
import unittest

from ladderhall import errors
from ladderhall.keeping import Keeper
from tests.samples import DIAMOND, any_things, chain, copied, same

# How many arguments each function takes.
INTERFACE = {
    "ladders": {
        "is_ladder": 1, "is_below": 3, "is_parting": 1, "least_of": 1, "greatest_of": 1, "joined_all": 2, "below": 2,
        "met": 3, "turned": 1, "height_of": 1, "corners": 1, "chain_ladder": 1, "flat_ladder": 1, "paired": 2,
    },
    "rules": {
        "is_rule": 2, "rises": 2, "spreads": 2, "is_no_more": 3, "plain_rule": 1, "steady": 2, "after": 2,
        "joined_rules": 3, "least_rising": 2, "fixed": 2, "again_and_again": 2,
    },
    "charts": {"is_chart": 2, "is_answer": 3, "is_no_less": 3, "joined_answers": 3},
    "solving": {
        "lowest": 2, "least": 2, "gone": 3, "least_by": 3, "paper_for": 2, "missing": 3, "is_paper": 4,
        "is_least_at": 4,
    },
    "paths": {"states": 2, "brought": 4, "path_to": 4, "by_paths": 2, "goals_of": 2, "places_reached": 2},
    "ceilings": {"is_under": 3, "greatest": 2, "back_rule": 2, "demands": 4},
    "keeping": {"Keeper": 2},
    "shortening": {"without_place": 3, "joined_ways": 2, "without_places": 3},
    "houses": {
        "is_program": 2, "calls_itself": 2, "summaries": 2, "summaries_by": 3, "answer_in": 4, "called_by": 2,
    },
    "maps": {
        "is_map": 3, "back_of": 3, "after_map": 2, "mapped_rule": 4, "mapped_chart": 4, "mapped_worths": 2,
        "paired_rules": 2,
    },
    "texts": {"written": 2, "read": 1},
}
KEEPER = {"add_begin": 2, "add_way": 3, "chart": 0, "answer": 0, "raises": 0}
REFUSALS = ("NoRule", "NoPlace", "NoStep", "NoHouse", "NoMap", "TooGreat", "NoText")

TWO = chain(2)
SWAP = (0, 2, 1, 3)
PLAIN = (0, 1, 2, 3)
CHART = (3, ((0, 1, SWAP), (1, 0, PLAIN), (1, 1, PLAIN), (1, 2, SWAP), (0, 1, PLAIN)), ((0, 1), (1, 2), (0, 0)))
ORDER = [("way", 0), ("begin", 0), ("way", 1), ("way", 3)]
PROGRAM = ((2, ((0, 1, 1), (0, 1, PLAIN))), (3, ((0, 1, 0), (1, 2, SWAP), (1, 1, 1))))
PART = (0, 1, 0, 1)
TEXT = "ladder\n0 1\n1 1\nplaces 2\n0 1 1 1\nbegins\n1 0\n"

# For each function arguments with which it tells something.
CALLS = {
    "is_ladder": [(DIAMOND,), ([[0]],)],
    "is_below": [(DIAMOND, 1, 3)],
    "is_parting": [(DIAMOND,)],
    "least_of": [(DIAMOND,)],
    "greatest_of": [(DIAMOND,)],
    "joined_all": [(DIAMOND, [1, 2, 1]), (DIAMOND, [])],
    "below": [(DIAMOND, 3)],
    "met": [(DIAMOND, 1, 2)],
    "turned": [(DIAMOND,)],
    "height_of": [(DIAMOND,)],
    "corners": [(DIAMOND,)],
    "chain_ladder": [(3,)],
    "flat_ladder": [(2,)],
    "paired": [(DIAMOND, TWO)],
    "is_rule": [(DIAMOND, SWAP), (DIAMOND, [0, 1, 2, 3])],
    "rises": [(DIAMOND, SWAP)],
    "spreads": [(DIAMOND, SWAP)],
    "is_no_more": [(DIAMOND, SWAP, PLAIN)],
    "plain_rule": [(DIAMOND,)],
    "steady": [(DIAMOND, 1)],
    "after": [(SWAP, PLAIN)],
    "joined_rules": [(DIAMOND, SWAP, PLAIN)],
    "least_rising": [(DIAMOND, (3, 2, 1, 0))],
    "fixed": [(DIAMOND, SWAP)],
    "again_and_again": [(DIAMOND, SWAP)],
    "is_chart": [(DIAMOND, CHART), (DIAMOND, [3, [], []])],
    "is_answer": [(DIAMOND, CHART, (3, 3, 3)), (DIAMOND, CHART, [3, 3, 3])],
    "is_no_less": [(DIAMOND, (3, 3), (1, 2))],
    "joined_answers": [(DIAMOND, (0, 1), (1, 2))],
    "lowest": [(DIAMOND, CHART)],
    "least": [(DIAMOND, CHART)],
    "gone": [(DIAMOND, CHART, ORDER), (DIAMOND, CHART, [])],
    "least_by": [(DIAMOND, CHART, ORDER)],
    "paper_for": [(DIAMOND, CHART)],
    "missing": [(DIAMOND, CHART, (0, 0, 0)), (DIAMOND, CHART, (3, 3, 3))],
    "is_paper": [(DIAMOND, CHART, (3, 3, 3), ORDER), (DIAMOND, CHART, (3, 3, 3), [["begin", 0]])],
    "is_least_at": [(DIAMOND, CHART, 0, 1)],
    "states": [(DIAMOND, CHART)],
    "brought": [(DIAMOND, CHART, ("begin", 0), [0, 1, 4, 3]), (DIAMOND, CHART, ("place", 2), [])],
    "path_to": [(DIAMOND, CHART, 2, 1), (DIAMOND, CHART, 0, 0), (DIAMOND, CHART, 2, 3)],
    "by_paths": [(DIAMOND, CHART)],
    "goals_of": [(CHART, 1), (CHART, 2)],
    "places_reached": [(CHART, 1), (CHART, 2)],
    "is_under": [(DIAMOND, CHART, (0, 0, 0)), (DIAMOND, CHART, [0, 0, 0])],
    "greatest": [(DIAMOND, CHART)],
    "back_rule": [(DIAMOND, (1, 1, 3, 3))],
    "demands": [(DIAMOND, CHART, 2, 1)],
    "without_place": [(DIAMOND, CHART, 1)],
    "joined_ways": [(DIAMOND, CHART)],
    "without_places": [(DIAMOND, CHART, [1, 0]), (DIAMOND, CHART, [])],
    "is_program": [(DIAMOND, PROGRAM), (DIAMOND, [[1, []]])],
    "calls_itself": [(PROGRAM, 0)],
    "summaries": [(DIAMOND, PROGRAM)],
    "summaries_by": [(DIAMOND, PROGRAM, 1)],
    "answer_in": [(DIAMOND, PROGRAM, 1, 2)],
    "called_by": [(PROGRAM, 0), (((1, ()),), 0)],
    "is_map": [(DIAMOND, TWO, PART), (DIAMOND, TWO, [0, 1, 0, 1])],
    "back_of": [(DIAMOND, TWO, PART)],
    "after_map": [(PART, (0, 2))],
    "mapped_rule": [(DIAMOND, TWO, PART, SWAP)],
    "mapped_chart": [(DIAMOND, TWO, PART, CHART)],
    "mapped_worths": [(PART, (3, 2, 1))],
    "paired_rules": [(PART, (1, 0))],
    "written": [(DIAMOND, CHART)],
    "read": [(TEXT,)],
}
# For each function that refuses arguments that it refuses, and with what.
REFUSED = [
    ("chain_ladder", (0,), "TooGreat"),
    ("chain_ladder", (17,), "TooGreat"),
    ("flat_ladder", (-1,), "TooGreat"),
    ("flat_ladder", (15,), "TooGreat"),
    ("paired", (chain(5), DIAMOND), "TooGreat"),
    ("fixed", (DIAMOND, [0, 1, 2, 3]), "NoRule"),
    ("again_and_again", (DIAMOND, (3, 2, 1, 0)), "NoRule"),
    ("gone", (DIAMOND, CHART, [("way", 0), ("way", 5)]), "NoStep"),
    ("least_by", (DIAMOND, CHART, [("begin", -1)]), "NoStep"),
    ("brought", (DIAMOND, CHART, ("place", 3), []), "NoStep"),
    ("brought", (DIAMOND, CHART, ("begin", 0), [0, 0]), "NoStep"),
    ("goals_of", (CHART, 3), "NoPlace"),
    ("places_reached", (CHART, -1), "NoPlace"),
    ("demands", (DIAMOND, CHART, 3, 0), "NoPlace"),
    ("demands", (DIAMOND, (1, ((0, 0, (1, 1, 3, 3)),), ()), 0, 3), "NoRule"),
    ("without_place", (DIAMOND, CHART, -1), "NoPlace"),
    ("without_place", (DIAMOND, CHART, 3), "NoPlace"),
    ("without_places", (DIAMOND, CHART, [1, 3]), "NoPlace"),
    ("answer_in", (DIAMOND, PROGRAM, 2, 0), "NoHouse"),
    ("called_by", (PROGRAM, -1), "NoHouse"),
    ("calls_itself", (PROGRAM, 2), "NoHouse"),
    ("back_of", (DIAMOND, TWO, [0, 1, 0, 1]), "NoMap"),
    ("mapped_rule", (DIAMOND, TWO, (0, 0, 0, 1), SWAP), "NoMap"),
    ("mapped_chart", (DIAMOND, TWO, (1, 1, 1, 1), CHART), "NoMap"),
    ("read", (TEXT[:-1],), "NoText"),
    ("read", ("",), "NoText"),
]
TAKES_ANY_THING = {
    "is_ladder": (), "is_rule": (DIAMOND,), "is_chart": (DIAMOND,), "is_answer": (DIAMOND, CHART),
    "is_paper": (DIAMOND, CHART, (3, 3, 3)), "is_under": (DIAMOND, CHART), "is_program": (DIAMOND,),
    "is_map": (DIAMOND, TWO),
}


def functions():
    """All functions of the interface by their names."""
    found = {}
    for module, names in INTERFACE.items():
        for name in names:
            found[name] = getattr(importlib.import_module("ladderhall." + module), name)
    return found


def emptied(thing):
    """Empties all lists within a thing."""
    if isinstance(thing, (list, tuple)):
        for part in thing:
            emptied(part)
    if isinstance(thing, list):
        thing.clear()


def made_of(thing):
    """All kinds of which a thing is made."""
    if isinstance(thing, (list, tuple)):
        return {thing.__class__}.union(*[made_of(part) for part in thing])
    return {thing.__class__}


class WholeTest(unittest.TestCase):
    def check_calls(self, check):
        """Checks each function with arguments of its own, which the check may change."""
        for name, several in CALLS.items():
            for arguments in several:
                with self.subTest(name=name, arguments=arguments):
                    check(name, functions()[name], copied(arguments))


class InterfaceTest(WholeTest):
    def test_names_and_arguments(self):
        for module, names in INTERFACE.items():
            for name, many in names.items():
                with self.subTest(module=module, name=name):
                    found = getattr(importlib.import_module("ladderhall." + module), name)
                    self.assertEqual(len(inspect.signature(found).parameters), many)

    def test_keeper(self):
        keeper = Keeper(DIAMOND, 2)
        for name, many in KEEPER.items():
            with self.subTest(name):
                self.assertEqual(len(inspect.signature(getattr(keeper, name)).parameters), many)

    def test_all_are_called_here(self):
        self.assertEqual(set(CALLS), set(functions()) - {"Keeper"})

    def test_truths(self):
        truths = {
            "is_ladder", "is_below", "is_parting", "is_rule", "rises", "spreads", "is_no_more", "is_chart", "is_answer",
            "is_no_less", "is_paper", "is_least_at", "is_under", "is_program", "calls_itself", "is_map",
        }
        def check(name, function, arguments):
            self.assertEqual(isinstance(function(*arguments), bool), name in truths)
        self.check_calls(check)

    def test_kinds(self):
        lists = {"below", "corners", "paper_for", "states", "goals_of", "places_reached", "called_by"}
        def check(name, function, arguments):
            told = function(*arguments)
            self.assertEqual(isinstance(told, list), name in lists)
            if name not in lists | {"path_to"}:
                self.assertNotIn(list, made_of(told))
            self.assertLessEqual(made_of(told), {bool, int, str, tuple, list, None.__class__})
        self.check_calls(check)


class HandedInAndToldTest(WholeTest):
    """0.3"""

    def test_what_is_handed_in_is_not_changed(self):
        def check(name, function, arguments):
            before = copied(arguments)
            function(*arguments)
            self.assertTrue(same(arguments, before))
        self.check_calls(check)

    def test_told_lists_are_new_ones(self):
        def check(name, function, arguments):
            before = copied(arguments)
            told = function(*arguments)
            kept = copied(told)
            emptied(told)
            self.assertTrue(same(arguments, before))
            self.assertTrue(same(function(*arguments), kept))
        self.check_calls(check)

    def test_what_was_told_stays_when_lists_handed_in_change(self):
        def check(name, function, arguments):
            told = function(*arguments)
            kept = copied(told)
            emptied(arguments)
            self.assertTrue(same(told, kept))
        self.check_calls(check)

    def test_any_thing_as_the_last_argument(self):
        for name, ahead in TAKES_ANY_THING.items():
            for thing in any_things() + [CHART, PROGRAM, DIAMOND, ORDER, PART, [CHART], (PROGRAM,)]:
                with self.subTest(name=name, thing=thing):
                    before = copied(thing)
                    self.assertIn(functions()[name](*ahead, thing), (True, False))
                    self.assertIsInstance(functions()[name](*ahead, thing), bool)
                    self.assertTrue(same(thing, before))


class RefusalsTest(unittest.TestCase):
    """0.3"""

    def refusal_of(self, name, arguments):
        try:
            functions()[name](*arguments)
        except errors.RiseError as refusal:
            return refusal
        return None

    def test_all_stand_under_rise_error_and_under_none_other(self):
        for name, arguments, wanted in REFUSED:
            with self.subTest(name=name, arguments=arguments):
                before = copied(arguments)
                refusal = self.refusal_of(name, arguments)
                self.assertIsInstance(refusal, ValueError)
                self.assertEqual([one for one in REFUSALS if isinstance(refusal, getattr(errors, one))], [wanted])
                self.assertTrue(same(arguments, before))

    def test_each_refusal_is_told_somewhere(self):
        self.assertEqual({wanted for name, arguments, wanted in REFUSED}, set(REFUSALS))

    def test_behind_a_refusal_all_is_as_ahead(self):
        for name, arguments, wanted in REFUSED:
            with self.subTest(name=name, arguments=arguments):
                ahead = [functions()[name](*told) for told in CALLS[name]]
                self.refusal_of(name, arguments)
                self.assertTrue(same([functions()[name](*told) for told in CALLS[name]], ahead))
