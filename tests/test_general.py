"""The general rules [2] and the interface [16], for all that patterns.py and runs.py have."""

import copy
import inspect
import unittest

from barredcrossings import patterns, runs
from barredcrossings.errors import NoLetter, NoName, Unfit
from tests.oracles import as_lists
from tests.samples import ANSWER, CALM, CHAIN, CROSSING, GREAT, ORDER, RUSH, STUCK, SWAP, great_run

PARAMETERS = {
    patterns: {
        "is_bond": "thing", "is_pattern": "thing", "is_wish": "thing", "names_of": "pattern",
        "renamed": "pattern pairs", "turned_about": "pattern", "merged": "pattern one other", "closure": "pattern",
        "follows": "pattern bond", "fewest_bonds": "pattern", "same_runs": "one other",
    },
    runs: {
        "is_run": "thing", "letters_in": "run", "ends_in": "run", "house_of": "run letter end",
        "ahead": "run one other", "ends_between": "run letter", "time_row": "run", "is_time_row": "run thing",
        "overtaken": "run", "is_causal": "run", "is_one_by_one": "run", "kind_of": "run", "letter_row": "run",
        "is_letter_row": "run thing", "is_crown": "run thing", "crown": "run",
    },
}

# Calls with the kinds of values that come of them; thing is never a list here.
CALLS = [
    (patterns.names_of, (ORDER,)), (patterns.names_of, (GREAT,)),
    (patterns.renamed, (CHAIN, (("a", "b"), ("b", "a")))), (patterns.renamed, (ORDER, ())),
    (patterns.turned_about, (ANSWER,)), (patterns.turned_about, (GREAT,)),
    (patterns.merged, (CHAIN, "a", "c")), (patterns.merged, (CROSSING, "a", "b")), (patterns.merged, (GREAT, "c", "h")),
    (patterns.closure, (ORDER,)), (patterns.closure, (GREAT,)),
    (patterns.follows, (ORDER, ("b", "s", "a", "r"))), (patterns.follows, (CROSSING, ("a", "s", "b", "s"))),
    (patterns.fewest_bonds, (GREAT,)), (patterns.fewest_bonds, (CROSSING,)),
    (patterns.same_runs, (ORDER, CROSSING)), (patterns.same_runs, (CHAIN, CHAIN)),
    (runs.house_of, (SWAP, 3, "r")), (runs.ahead, (SWAP, (0, "s"), (1, "r"))), (runs.ahead, (RUSH, (0, "s"), (0, "s"))),
    (runs.ends_between, (RUSH, 0)),
    (runs.is_time_row, (RUSH, ((0, "s"), (1, "s"), (1, "r"), (0, "r")))), (runs.is_letter_row, (CALM, (0, 2, 1))),
    (runs.is_crown, (SWAP, (0, 1))),
]
CALLS += [
    (call, (run,))
    for call in (
        runs.letters_in, runs.ends_in, runs.time_row, runs.overtaken, runs.is_causal, runs.is_one_by_one,
        runs.kind_of, runs.letter_row, runs.crown,
    )
    for run in (SWAP, RUSH, CALM, great_run(), (), ((), ()))
]

RAISING = [
    (patterns.renamed, (ORDER, (("c", "a"),)), NoName), (patterns.renamed, (ORDER, (("a", "b"),)), Unfit),
    (patterns.merged, (ORDER, "a", "c"), NoName), (patterns.closure, (STUCK,), Unfit),
    (patterns.follows, (STUCK, ("a", "s", "c", "s")), NoName), (patterns.follows, (STUCK, STUCK[0]), Unfit),
    (patterns.fewest_bonds, (STUCK,), Unfit), (patterns.same_runs, (ORDER, STUCK), Unfit),
    (runs.house_of, (RUSH, 2, "s"), NoLetter), (runs.ahead, (RUSH, (2, "s"), (3, "s")), NoLetter),
    (runs.ends_between, (RUSH, 2), NoLetter),
]


def handed_in(call, args):
    """The arguments with lists for tuples, at any depth, but for what is called thing."""
    names = list(inspect.signature(call).parameters)
    return [arg if name == "thing" else as_lists(arg) for name, arg in zip(names, args)]


def by_name(call, args):
    return dict(zip(inspect.signature(call).parameters, args))


def has_no_list(value):
    if isinstance(value, tuple):
        return all(has_no_list(part) for part in value)
    return not isinstance(value, list)


class TheInterface(unittest.TestCase):
    def test_names_and_arguments(self):
        for module, told in PARAMETERS.items():
            for word, names in told.items():
                parameters = inspect.signature(getattr(module, word)).parameters
                self.assertEqual(" ".join(parameters), names, word)
                for parameter in parameters.values():
                    self.assertIs(parameter.default, parameter.empty)
                    self.assertEqual(parameter.kind, parameter.POSITIONAL_OR_KEYWORD)

    def test_each_function_is_defined_where_it_is_listed(self):
        for module, told in PARAMETERS.items():
            for word in told:
                self.assertEqual(getattr(module, word).__module__, module.__name__)


class Arguments(unittest.TestCase):
    def test_lists_for_tuples_at_any_depth(self):
        for call, args in CALLS:
            expected = call(*args)
            self.assertEqual(call(*handed_in(call, args)), expected, call)
            if args and isinstance(args[0], tuple):
                partly = tuple(list(part) if isinstance(part, tuple) else part for part in args[0])
                self.assertEqual(call(partly, *args[1:]), expected, call)
                self.assertEqual(call(list(args[0]), *args[1:]), expected, call)
            self.assertIs(type(call(*handed_in(call, args))), type(expected))

    def test_by_name(self):
        for call, args in CALLS:
            expected = call(*args)
            self.assertEqual(call(**by_name(call, args)), expected)
            self.assertEqual(call(**by_name(call, handed_in(call, args))), expected)
            backwards = dict(reversed(by_name(call, args).items()))
            self.assertEqual(call(**backwards), expected)
            if len(args) > 1:
                self.assertEqual(call(args[0], **dict(list(by_name(call, args).items())[1:])), expected)
        for call in (patterns.is_bond, patterns.is_pattern, patterns.is_wish, runs.is_run):
            self.assertIs(call(thing=None), False)
        self.assertIs(patterns.is_bond(thing=ORDER[0]), True)
        self.assertIs(patterns.is_pattern(thing=ORDER), True)
        self.assertIs(patterns.is_wish(thing=(ORDER,)), True)
        self.assertIs(runs.is_run(thing=RUSH), True)

    def test_errors_likewise(self):
        for call, args, error in RAISING:
            for given in (args, handed_in(call, args)):
                kept = copy.deepcopy(given)
                with self.assertRaises(error):
                    call(*given)
                self.assertEqual(given, kept)
                with self.assertRaises(error):
                    call(**by_name(call, given))

    def test_they_are_unchanged_behind_a_call(self):
        for call, args in CALLS:
            given = handed_in(call, args)
            kept = copy.deepcopy(given)
            call(*given)
            self.assertEqual(given, kept, call)

    def test_things_are_unchanged_behind_a_call(self):
        for thing in (as_lists(ORDER), as_lists(RUSH), [0, 1], [[0, "s"]], ([["a", "s", "b", "s"]],), ([0, "s"],)):
            kept = copy.deepcopy(thing)
            for call in (patterns.is_bond, patterns.is_pattern, patterns.is_wish, runs.is_run):
                self.assertIs(call(thing), False)
            for call in (runs.is_time_row, runs.is_letter_row, runs.is_crown):
                self.assertIs(call(as_lists(RUSH), thing), False)
            self.assertEqual(thing, kept)

    def test_a_list_is_no_tuple_for_thing_though_it_is_for_run(self):
        for run in (RUSH, as_lists(RUSH)):
            self.assertIs(runs.is_time_row(run, ((0, "s"), (1, "s"), (1, "r"), (0, "r"))), True)
            self.assertIs(runs.is_time_row(run, [(0, "s"), (1, "s"), (1, "r"), (0, "r")]), False)
            self.assertIs(runs.is_time_row(run, ((0, "s"), (1, "s"), (1, "r"), [0, "r"])), False)
            self.assertIs(runs.is_crown(run, (0, 1)), True)
            self.assertIs(runs.is_crown(run, [0, 1]), False)
        for run in (CALM, as_lists(CALM)):
            self.assertIs(runs.is_letter_row(run, (0, 2, 1)), True)
            self.assertIs(runs.is_letter_row(run, [0, 2, 1]), False)


class Results(unittest.TestCase):
    def test_the_same_call_once_more_is_the_same(self):
        for call, args in CALLS:
            first = call(*args)
            self.assertEqual(call(*args), first)
            self.assertEqual(call(*handed_in(call, args)), first)

    def test_every_returned_list_is_new(self):
        first = runs.overtaken(RUSH)
        first.append("more")
        self.assertEqual(runs.overtaken(RUSH), [(0, 1)])
        first = runs.overtaken(CALM)
        first.append("more")
        self.assertEqual(runs.overtaken(CALM), [])

    def test_only_overtaken_returns_a_list(self):
        for call, args in CALLS:
            found = call(*handed_in(call, args))
            if call is runs.overtaken:
                self.assertIs(type(found), list)
                found = tuple(found)
            self.assertTrue(has_no_list(found), call)

    def test_whether_is_told_by_true_and_false_themselves(self):
        words = {patterns.follows, patterns.same_runs, runs.ahead}
        for call, args in CALLS:
            if call in words or call.__name__.startswith("is_"):
                self.assertIs(type(call(*args)), bool)

    def test_what_is_returned_can_be_handed_in_again(self):
        for pattern in (ORDER, CHAIN, ANSWER):
            for found in (patterns.closure(pattern), patterns.fewest_bonds(pattern), patterns.turned_about(pattern)):
                self.assertIs(patterns.is_pattern(found), True)
                self.assertEqual(patterns.names_of(found), patterns.names_of(pattern))


if __name__ == "__main__":
    unittest.main()
