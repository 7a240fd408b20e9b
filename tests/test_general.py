"""The general rules [2] and the interface [16], for all files that have landed."""

import copy
import inspect
import unittest

from barredcrossings import built, counted, desk, found, marks, patterns, rings, runs, sorts, texts, wishes
from barredcrossings.errors import BadLine, BadText, NoHouse, NoLetter, NoName, NothingDone, Twice, Unfit
from barredcrossings.talk import Talk
from tests.oracles import as_lists
from tests.samples import (
    ANSWER, BOTH, CALM, CHAIN, CROSSING, GREAT, GREAT_ASKS, GREAT_ROUND, LONG_AND_SHORT, ORDER, RUSH, STUCK, SWAP,
    THREE, great_run,
)

PARAMETERS = {
    patterns: {
        "is_bond": "thing", "is_pattern": "thing", "is_wish": "thing", "names_of": "pattern",
        "renamed": "pattern pairs", "turned_about": "pattern", "merged": "pattern one other", "closure": "pattern",
        "follows": "pattern bond", "fewest_bonds": "pattern", "same_runs": "one other",
    },
    runs: {
        "is_run": "thing", "letters_in": "run", "ends_in": "run", "house_of": "run letter end",
        "ahead": "run one other", "ends_between": "run letter", "time_row": "run", "is_time_row": "run thing",
        "overtaken": "run", "is_causal": "run", "is_one_by_one": "run", "kind_of": "run", "letter_row": "run",
        "is_letter_row": "run thing", "is_crown": "run thing", "crown": "run",
    },
    rings: {
        "ring_names": "ring", "turns": "ring", "turning_names": "ring", "is_ring": "pattern thing", "rings": "pattern",
        "how_many_rings": "pattern many", "least_turns": "pattern", "least_ring": "pattern",
        "is_least_ring": "pattern thing", "on_rings": "pattern",
    },
    sorts: {
        "sort_of": "pattern", "is_dearer": "one other", "in_some": "pattern kind", "sorts_without": "pattern",
        "loose_bonds": "pattern", "mending_bonds": "pattern sort", "core": "pattern", "core_size": "pattern",
        "is_core": "pattern thing",
    },
    built: {
        "end_order": "pattern", "nearest_pairs": "pattern", "name_row": "pattern", "is_name_row": "pattern thing",
        "how_many_name_rows": "pattern", "how_many_orders": "pattern", "run_with": "pattern kind",
        "is_run_with": "pattern kind thing",
    },
    wishes: {
        "sort_of_wish": "wish", "dearest": "wish", "cheapest_part": "wish sort", "kept_by": "wish kind",
        "breaking_run": "wish kind", "covering": "one other", "covers": "one other", "is_covering": "one other thing",
        "needless": "wish", "thinned": "wish",
    },
    found: {
        "placings": "pattern run", "how_many_placings": "pattern run", "is_in": "pattern run",
        "first_placing": "pattern run", "is_placing": "pattern run thing", "keeps": "run wish", "broken": "run wish",
        "pattern_of": "run letters", "cut": "run letter", "guilty": "run wish",
    },
    marks: {
        "known_letters": "run end", "matrix": "run end", "due_ahead": "run letter", "too_late": "run letter",
        "handed": "run", "held": "run", "waits": "run", "most_held": "run",
    },
    counted: {
        "all_bonds": "many", "how_many_patterns": "many bonds", "pattern_at": "many bonds number",
        "number_of_pattern": "many pattern", "patterns_of_sort": "many bonds sort", "sorts_counted": "many bonds",
        "least_renamed": "pattern", "are_alike": "one other", "unlike_patterns": "many bonds",
    },
    texts: {
        "pattern_text": "pattern", "read_pattern": "text", "wish_text": "wish", "read_wish": "text", "run_text": "run",
        "read_run": "text", "sheet_text": "sheet", "read_sheet": "text",
    },
    desk: {"replies": "text"},
}
METHODS = {
    "__init__": "houses wish", "__len__": "", "__eq__": "other", "__iter__": "", "send": "letter house to",
    "hand": "letter", "undo": "", "twin": "", "wish": "", "rows": "", "on_way": "", "goal": "letter", "run": "",
    "kind": "", "broken": "", "broken_by": "letter", "safe": "", "overtakes": "letter", "causal": "",
}

PATTERNS = (ANSWER, ORDER, CROSSING, CHAIN, THREE, BOTH, LONG_AND_SHORT, GREAT, GREAT_ASKS)
NO_RUN = (STUCK, GREAT_ROUND)
KINDS = ("any", "causal", "one by one")
WISHES = (
    (), (ORDER,), (CROSSING, ORDER), tuple(sorted([STUCK, ORDER, CROSSING, ANSWER])),
    tuple(sorted([GREAT_ROUND, GREAT_ASKS, BOTH, CHAIN])),
)
SMALL_WISHES = WISHES[:4]
RUNS = (SWAP, RUSH, CALM, (), ((), ()))

# Calls with the kinds of values that come of them; thing is never a list here.
CALLS = [
    (patterns.names_of, (ORDER,)), (patterns.names_of, (GREAT,)),
    (patterns.renamed, (CHAIN, (("a", "b"), ("b", "a")))), (patterns.renamed, (ORDER, ())),
    (patterns.turned_about, (ANSWER,)), (patterns.turned_about, (GREAT,)),
    (patterns.merged, (CHAIN, "a", "c")), (patterns.merged, (CROSSING, "a", "b")), (patterns.merged, (GREAT, "c", "h")),
    (patterns.closure, (ORDER,)), (patterns.closure, (GREAT,)),
    (patterns.follows, (ORDER, ("b", "s", "a", "r"))), (patterns.follows, (CROSSING, ("a", "s", "b", "s"))),
    (patterns.fewest_bonds, (GREAT,)), (patterns.fewest_bonds, (CROSSING,)),
    (patterns.same_runs, (ORDER, CROSSING)), (patterns.same_runs, (CHAIN, CHAIN)),
    (runs.house_of, (SWAP, 3, "r")), (runs.ahead, (SWAP, (0, "s"), (1, "r"))), (runs.ahead, (RUSH, (0, "s"), (0, "s"))),
    (runs.ends_between, (RUSH, 0)),
    (runs.is_time_row, (RUSH, ((0, "s"), (1, "s"), (1, "r"), (0, "r")))), (runs.is_letter_row, (CALM, (0, 2, 1))),
    (runs.is_crown, (SWAP, (0, 1))),
]
CALLS += [
    (call, (run,))
    for call in (
        runs.letters_in, runs.ends_in, runs.time_row, runs.overtaken, runs.is_causal, runs.is_one_by_one,
        runs.kind_of, runs.letter_row, runs.crown,
    )
    for run in (SWAP, RUSH, CALM, great_run(), (), ((), ()))
]
CALLS += [
    (call, (pattern,))
    for call in (
        rings.least_turns, rings.least_ring, rings.on_rings, sorts.sort_of, sorts.sorts_without, sorts.loose_bonds,
        sorts.core, sorts.core_size, built.name_row, built.how_many_name_rows,
    )
    for pattern in PATTERNS + NO_RUN
]
CALLS += [(call, (pattern,)) for call in (built.end_order, built.nearest_pairs) for pattern in PATTERNS]
CALLS += [(call, (pattern,)) for call in (rings.rings, built.how_many_orders) for pattern in PATTERNS[:6] + (STUCK,)]
CALLS += [
    (call, (ring,))
    for call in (rings.ring_names, rings.turns, rings.turning_names) for ring in (ORDER, THREE, STUCK)
]
CALLS += [(rings.how_many_rings, (BOTH, many)) for many in (0, 1, 2, -7, 10 ** 30)]
CALLS += [(sorts.mending_bonds, (pattern, sort)) for pattern in (ANSWER, CROSSING, THREE) for sort in sorts.SORTS]
CALLS += [
    (call, (pattern, kind))
    for call in (sorts.in_some, built.run_with) for pattern in PATTERNS + NO_RUN for kind in KINDS
]
CALLS += [
    (sorts.is_dearer, ("asks", "marks")), (sorts.is_dearer, ("itself", "itself")),
    (rings.is_ring, (BOTH, ORDER)), (rings.is_ring, (ORDER, ORDER[::-1])), (rings.is_ring, (ORDER, None)),
    (rings.is_least_ring, (BOTH, ORDER)), (rings.is_least_ring, (BOTH, CROSSING)), (rings.is_least_ring, (ORDER, None)),
    (sorts.is_core, (BOTH, ORDER)), (sorts.is_core, (BOTH, CROSSING)), (sorts.is_core, (BOTH, 0)),
    (built.is_name_row, (ANSWER, ("a", "b"))), (built.is_name_row, (ANSWER, ("b", "a"))),
    (built.is_name_row, (ANSWER, True)), (built.is_run_with, (ORDER, "any", RUSH)),
    (built.is_run_with, (ORDER, "causal", RUSH)), (built.is_run_with, (ORDER, "one by one", "RUSH")),
    (built.is_run_with, (ANSWER, "one by one", CALM)),
]
CALLS += [(call, (wish,)) for call in (wishes.sort_of_wish, wishes.dearest) for wish in WISHES]
CALLS += [(call, (wish,)) for call in (wishes.needless, wishes.thinned) for wish in SMALL_WISHES]
CALLS += [(wishes.cheapest_part, (wish, sort)) for wish in WISHES for sort in sorts.SORTS]
CALLS += [(call, (wish, kind)) for call in (wishes.kept_by, wishes.breaking_run) for wish in WISHES for kind in KINDS]
CALLS += [
    (call, (one, other))
    for call in (wishes.covers, wishes.covering) for one in (ORDER, CROSSING, STUCK) for other in (ORDER, THREE, BOTH)
]
CALLS += [
    (call, (pattern, run))
    for call in (found.placings, found.how_many_placings, found.is_in, found.first_placing)
    for pattern in (ANSWER, ORDER, CROSSING, STUCK) for run in RUNS
]
CALLS += [
    (call, (run, wish)) for call in (found.keeps, found.broken, found.guilty) for wish in SMALL_WISHES for run in RUNS
]
CALLS += [(found.pattern_of, (run, letters)) for run in (SWAP, CALM) for letters in ((0, 1), (2, 1, 0))]
CALLS += [(found.cut, (run, letter)) for run in (SWAP, CALM) for letter in (0, 2)]
CALLS += [(call, (SWAP, end)) for call in (marks.known_letters, marks.matrix) for end in ((0, "s"), (1, "r"))]
CALLS += [
    (call, (run, letter)) for call in (marks.due_ahead, marks.too_late) for run in (RUSH, SWAP) for letter in (0, 1)
]
CALLS += [
    (call, (run,))
    for call in (marks.handed, marks.held, marks.waits, marks.most_held) for run in RUNS + (great_run(),)
]
CALLS += [
    (wishes.is_covering, (CROSSING, ORDER, ("b", "a"))), (wishes.is_covering, (CROSSING, ORDER, ("a", "a"))),
    (wishes.is_covering, (CROSSING, ORDER, None)), (found.is_placing, (ORDER, RUSH, (0, 1))),
    (found.is_placing, (ORDER, RUSH, (1, 0))), (found.is_placing, (ORDER, RUSH, "01")),
]
CALLS += [(counted.all_bonds, (many,)) for many in (2, 5)]
CALLS += [(counted.how_many_patterns, (many, bonds)) for many, bonds in ((2, 2), (2, 9), (8, 16))]
CALLS += [(counted.pattern_at, args) for args in ((2, 2, 16), (2, 2, -1), (8, 16, 10 ** 20))]
CALLS += [(counted.number_of_pattern, (many, pattern)) for many in (2, 8) for pattern in (ORDER, CHAIN, GREAT)]
CALLS += [(counted.sorts_counted, (2, 2)), (counted.unlike_patterns, (2, 2)), (counted.unlike_patterns, (2, 9))]
CALLS += [(counted.patterns_of_sort, (2, 2, sort)) for sort in sorts.SORTS]
CALLS += [(counted.least_renamed, (pattern,)) for pattern in (ORDER, CHAIN, THREE)]
CALLS += [(counted.are_alike, args) for args in ((ORDER, CROSSING), (CHAIN, CHAIN))]
CALLS += [(texts.pattern_text, (pattern,)) for pattern in PATTERNS]
CALLS += [(texts.wish_text, (wish,)) for wish in WISHES]
CALLS += [(texts.run_text, (run,)) for run in (SWAP, ((),))]
CALLS += [(texts.sheet_text, ((("cross", CROSSING), ("order", ORDER)),))]
CALLS += [
    (texts.read_pattern, ("a.s<b.s b.r<a.r",)), (texts.read_wish, ("-",)), (texts.read_wish, ("a.s<b.r; a.s<b.s",)),
    (texts.read_run, ("0s / - / 0r",)), (texts.read_sheet, ("x a.r<b.s\ny a.r<b.s",)),
    (desk.replies, ("2\n-\nrows\nsend 0 0 1\nundo\nundo",)), (desk.replies, ("2\n-",)),
]
LISTING = {
    counted.patterns_of_sort, counted.unlike_patterns, desk.replies,
    runs.overtaken, rings.rings, sorts.sorts_without, sorts.mending_bonds, built.end_order, built.nearest_pairs,
    found.placings, marks.waits,
}

RAISING = [
    (patterns.renamed, (ORDER, (("c", "a"),)), NoName), (patterns.renamed, (ORDER, (("a", "b"),)), Unfit),
    (patterns.merged, (ORDER, "a", "c"), NoName), (patterns.closure, (STUCK,), Unfit),
    (patterns.follows, (STUCK, ("a", "s", "c", "s")), NoName), (patterns.follows, (STUCK, STUCK[0]), Unfit),
    (patterns.fewest_bonds, (STUCK,), Unfit), (patterns.same_runs, (ORDER, STUCK), Unfit),
    (runs.house_of, (RUSH, 2, "s"), NoLetter), (runs.ahead, (RUSH, (2, "s"), (3, "s")), NoLetter),
    (runs.ends_between, (RUSH, 2), NoLetter),
    (built.end_order, (STUCK,), Unfit), (built.nearest_pairs, (STUCK,), Unfit),
    (built.end_order, (GREAT_ROUND,), Unfit), (built.nearest_pairs, (GREAT_ROUND,), Unfit),
    (wishes.covers, (ORDER, STUCK), Unfit), (wishes.covering, (ORDER, STUCK), Unfit),
    (wishes.is_covering, (ORDER, STUCK, None), Unfit), (found.pattern_of, (SWAP, (0, 9)), NoLetter),
    (found.cut, (SWAP, 9), NoLetter), (marks.known_letters, (RUSH, (2, "s")), NoLetter),
    (marks.matrix, (RUSH, (2, "r")), NoLetter), (marks.due_ahead, (RUSH, 2), NoLetter),
    (marks.too_late, ((), 0), NoLetter),
    (texts.read_pattern, ("",), BadText), (texts.read_wish, ("",), BadText), (texts.read_run, ("",), BadText),
    (texts.read_sheet, ("",), BadLine), (desk.replies, ("",), BadLine),
]


def handed_in(call, args):
    """The arguments with lists for tuples, at any depth, but for what is called thing."""
    names = list(inspect.signature(call).parameters)
    return [arg if name == "thing" else as_lists(arg) for name, arg in zip(names, args)]


def by_name(call, args):
    return dict(zip(inspect.signature(call).parameters, args))


def has_no_list(value):
    if isinstance(value, tuple):
        return all(has_no_list(part) for part in value)
    return not isinstance(value, list)


class TheInterface(unittest.TestCase):
    def test_names_and_arguments(self):
        for module, told in PARAMETERS.items():
            for word, names in told.items():
                parameters = inspect.signature(getattr(module, word)).parameters
                self.assertEqual(" ".join(parameters), names, word)
                for parameter in parameters.values():
                    self.assertIs(parameter.default, parameter.empty)
                    self.assertEqual(parameter.kind, parameter.POSITIONAL_OR_KEYWORD)

    def test_each_function_is_defined_where_it_is_listed(self):
        for module, told in PARAMETERS.items():
            for word in told:
                self.assertEqual(getattr(module, word).__module__, module.__name__)
        self.assertEqual(Talk.__module__, "barredcrossings.talk")

    def test_each_method_is_defined_in_the_class_itself(self):
        self.assertEqual(Talk.__mro__, (Talk, object))
        for word, names in METHODS.items():
            parameters = inspect.signature(vars(Talk)[word]).parameters
            self.assertEqual(" ".join(parameters), " ".join(["self", *names.split()]), word)
            for parameter in parameters.values():
                self.assertIs(parameter.default, parameter.empty)
                self.assertEqual(parameter.kind, parameter.POSITIONAL_OR_KEYWORD)


class Arguments(unittest.TestCase):
    def test_lists_for_tuples_at_any_depth(self):
        for call, args in CALLS:
            expected = call(*args)
            self.assertEqual(call(*handed_in(call, args)), expected, call)
            if args and isinstance(args[0], tuple):
                partly = tuple(list(part) if isinstance(part, tuple) else part for part in args[0])
                self.assertEqual(call(partly, *args[1:]), expected, call)
                self.assertEqual(call(list(args[0]), *args[1:]), expected, call)
            self.assertIs(type(call(*handed_in(call, args))), type(expected))

    def test_by_name(self):
        for call, args in CALLS:
            expected = call(*args)
            self.assertEqual(call(**by_name(call, args)), expected)
            self.assertEqual(call(**by_name(call, handed_in(call, args))), expected)
            backwards = dict(reversed(by_name(call, args).items()))
            self.assertEqual(call(**backwards), expected)
            if len(args) > 1:
                self.assertEqual(call(args[0], **dict(list(by_name(call, args).items())[1:])), expected)
        for call in (patterns.is_bond, patterns.is_pattern, patterns.is_wish, runs.is_run):
            self.assertIs(call(thing=None), False)
        self.assertIs(patterns.is_bond(thing=ORDER[0]), True)
        self.assertIs(patterns.is_pattern(thing=ORDER), True)
        self.assertIs(patterns.is_wish(thing=(ORDER,)), True)
        self.assertIs(runs.is_run(thing=RUSH), True)

    def test_errors_likewise(self):
        for call, args, error in RAISING:
            for given in (args, handed_in(call, args)):
                kept = copy.deepcopy(given)
                with self.assertRaises(error):
                    call(*given)
                self.assertEqual(given, kept)
                with self.assertRaises(error):
                    call(**by_name(call, given))

    def test_they_are_unchanged_behind_a_call(self):
        for call, args in CALLS:
            given = handed_in(call, args)
            kept = copy.deepcopy(given)
            call(*given)
            self.assertEqual(given, kept, call)

    def test_things_are_unchanged_behind_a_call(self):
        for thing in (as_lists(ORDER), as_lists(RUSH), [0, 1], [[0, "s"]], ([["a", "s", "b", "s"]],), ([0, "s"],)):
            kept = copy.deepcopy(thing)
            for call in (patterns.is_bond, patterns.is_pattern, patterns.is_wish, runs.is_run):
                self.assertIs(call(thing), False)
            for call in (runs.is_time_row, runs.is_letter_row, runs.is_crown):
                self.assertIs(call(as_lists(RUSH), thing), False)
            for call in (rings.is_ring, rings.is_least_ring, sorts.is_core, built.is_name_row):
                self.assertIs(call(as_lists(ORDER), thing), False)
            self.assertIs(built.is_run_with(as_lists(ORDER), "any", thing), False)
            self.assertIs(wishes.is_covering(as_lists(CROSSING), as_lists(ORDER), thing), False)
            self.assertIs(found.is_placing(as_lists(ORDER), as_lists(RUSH), thing), False)
            self.assertEqual(thing, kept)

    def test_a_list_is_no_tuple_for_thing_though_it_is_for_run(self):
        for run in (RUSH, as_lists(RUSH)):
            self.assertIs(runs.is_time_row(run, ((0, "s"), (1, "s"), (1, "r"), (0, "r"))), True)
            self.assertIs(runs.is_time_row(run, [(0, "s"), (1, "s"), (1, "r"), (0, "r")]), False)
            self.assertIs(runs.is_time_row(run, ((0, "s"), (1, "s"), (1, "r"), [0, "r"])), False)
            self.assertIs(runs.is_crown(run, (0, 1)), True)
            self.assertIs(runs.is_crown(run, [0, 1]), False)
        for run in (CALM, as_lists(CALM)):
            self.assertIs(runs.is_letter_row(run, (0, 2, 1)), True)
            self.assertIs(runs.is_letter_row(run, [0, 2, 1]), False)
        for pattern in (ORDER, as_lists(ORDER)):
            for call in (rings.is_ring, rings.is_least_ring, sorts.is_core):
                self.assertIs(call(pattern, ORDER), True)
                self.assertIs(call(pattern, as_lists(ORDER)), False)
                self.assertIs(call(pattern, list(ORDER)), False)
                self.assertIs(call(pattern, (ORDER[0], list(ORDER[1]))), False)
            self.assertIs(built.is_run_with(pattern, "any", RUSH), True)
            self.assertIs(built.is_run_with(pattern, "any", as_lists(RUSH)), False)
            self.assertIs(built.is_run_with(pattern, "any", (RUSH[0], list(RUSH[1]))), False)
        for pattern in (ANSWER, as_lists(ANSWER)):
            self.assertIs(built.is_name_row(pattern, ("a", "b")), True)
            self.assertIs(built.is_name_row(pattern, ["a", "b"]), False)
            self.assertIs(wishes.is_covering(pattern, pattern, ("a", "b")), True)
            self.assertIs(wishes.is_covering(pattern, pattern, ["a", "b"]), False)
            self.assertIs(found.is_placing(pattern, as_lists(CALM), (0, 1)), True)
            self.assertIs(found.is_placing(pattern, as_lists(CALM), [0, 1]), False)


class Objects(unittest.TestCase):
    def test_a_talk_by_position_and_by_name(self):
        wish = (CROSSING, ORDER)
        one, other = Talk(3, wish), Talk(wish=as_lists(wish), houses=3)
        self.assertIs(one == other, True)
        for letter, house, to in ((0, 0, 1), (1, 2, 1), (2, 0, 1)):
            one.send(letter, house, to)
            other.send(to=to, letter=letter, house=house)
        self.assertIs(one == other, True)
        for call, expected in (("goal", 1), ("broken_by", ()), ("overtakes", (0,))):
            self.assertEqual(getattr(one, call)(2), expected)
            self.assertEqual(getattr(other, call)(letter=2), expected)
        one.hand(2)
        other.hand(letter=2)
        self.assertIs(one == other, True)

    def test_errors_by_name(self):
        talk = Talk(houses=2, wish=())
        talk.send(letter=0, house=0, to=1)
        for call, given, error in (
            (talk.send, {"letter": 0, "house": 0, "to": 1}, Twice),
            (talk.send, {"letter": 1, "house": 0, "to": 2}, NoHouse),
            (talk.send, {"letter": 1, "house": 0, "to": 0}, Unfit), (talk.hand, {"letter": 1}, NoLetter),
            (talk.goal, {"letter": 1}, NoLetter), (talk.broken_by, {"letter": 1}, NoLetter),
            (talk.overtakes, {"letter": 1}, NoLetter), (Talk(2, []).undo, {}, NothingDone),
        ):
            with self.assertRaises(error):
                call(**given)
            self.assertEqual((len(talk), talk.rows()), (1, (((0, "s"),), ())))

    def test_what_is_asked_of_a_talk_changes_nothing(self):
        talk = Talk(3, (ORDER,))
        for letter, house, to in ((0, 0, 1), (1, 0, 1), (2, 1, 2)):
            talk.send(letter, house, to)
        talk.hand(1)
        kept = talk.twin()
        for word, names in METHODS.items():
            if word not in ("__init__", "__iter__", "__eq__", "send", "hand", "undo"):
                args = (2,) if names else ()
                first = getattr(talk, word)(*args)
                self.assertEqual(getattr(talk, word)(*args), first)
                self.assertIs(talk == kept, True)
                self.assertEqual(len(talk), len(kept))

    def test_a_talk_is_no_thing_that_is_asked_for(self):
        talk = Talk(2, (ORDER,))
        for call in (patterns.is_bond, patterns.is_pattern, patterns.is_wish, runs.is_run):
            for thing in (talk, (talk,), ((talk,),), (((0, "s"), talk),), [talk]):
                self.assertIs(call(thing), False)
        for thing in (talk, (talk,), (talk, talk), ((talk, talk),), (0, talk), ("a", talk), ((0, "s"), (talk, "r"))):
            for call in (runs.is_time_row, runs.is_letter_row, runs.is_crown):
                self.assertIs(call(RUSH, thing), False)
            for call in (rings.is_ring, rings.is_least_ring, sorts.is_core, built.is_name_row):
                self.assertIs(call(ORDER, thing), False)
            self.assertIs(built.is_run_with(ORDER, "any", thing), False)
            self.assertIs(wishes.is_covering(ORDER, ORDER, thing), False)
            self.assertIs(found.is_placing(ORDER, RUSH, thing), False)


class Results(unittest.TestCase):
    def test_the_same_call_once_more_is_the_same(self):
        for call, args in CALLS:
            first = call(*args)
            self.assertEqual(call(*args), first)
            self.assertEqual(call(*handed_in(call, args)), first)

    def test_every_returned_list_is_new(self):
        for call, args in CALLS:
            if call in LISTING:
                expected = call(*args)
                for spoil in (list.clear, lambda told: told.append("more"), list.reverse):
                    told = call(*args)
                    spoil(told)
                    self.assertEqual(call(*args), expected)

    def test_only_what_tells_several_results_returns_a_list(self):
        for call, args in CALLS:
            told = call(*handed_in(call, args))
            if call in LISTING:
                self.assertIs(type(told), list, call)
                told = tuple(told)
            self.assertTrue(has_no_list(told), call)

    def test_whether_is_told_by_true_and_false_themselves(self):
        words = {
            patterns.follows, patterns.same_runs, runs.ahead, sorts.is_dearer, sorts.in_some, wishes.kept_by,
            wishes.covers, found.keeps, counted.are_alike,
        }
        for call, args in CALLS:
            if call in words or call.__name__.startswith("is_"):
                self.assertIs(type(call(*args)), bool)

    def test_what_is_returned_can_be_handed_in_again(self):
        for pattern in (ORDER, CHAIN, ANSWER):
            for told in (patterns.closure(pattern), patterns.fewest_bonds(pattern), patterns.turned_about(pattern)):
                self.assertIs(patterns.is_pattern(told), True)
                self.assertEqual(patterns.names_of(told), patterns.names_of(pattern))
        for pattern in PATTERNS + NO_RUN:
            ring = rings.least_ring(pattern)
            if ring is not None:
                self.assertEqual(rings.turns(ring), rings.least_turns(pattern))
                self.assertEqual(rings.on_rings(tuple(sorted(ring))), tuple(sorted(ring)))
            self.assertEqual(sorts.core(sorts.core(pattern)), sorts.core(pattern))
            for kind in KINDS:
                run = built.run_with(pattern, kind)
                if run is not None:
                    self.assertIs(runs.is_run(run), True)
                    self.assertIs(built.is_run_with(pattern, kind, run), True)


if __name__ == "__main__":
    unittest.main()
