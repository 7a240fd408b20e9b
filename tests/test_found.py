"""found.py [10], and what the overview [1] says in (b) of places of a PATTERN in RUNS."""

import itertools
import random
import unittest

from barredcrossings.built import run_with
from barredcrossings.errors import NoLetter, Unfit
from barredcrossings.found import (
    broken, cut, first_placing, guilty, how_many_placings, is_in, is_placing, keeps, pattern_of, placings,
)
from barredcrossings.patterns import closure, is_pattern, names_of, renamed
from barredcrossings.runs import is_run, letters_in
from barredcrossings.sorts import in_some, sort_of
from barredcrossings.wishes import breaking_run
from tests import oracles
from tests.samples import (
    ANSWER, BOTH, CALM, CHAIN, CROSSING, GREAT, GREAT_ASKS, ORDER, RUSH, STUCK, SWAP, THREE, all_patterns,
    free_patterns, great_run, odd_things, ring_run, small_patterns, some_runs,
)

KINDS = ("any", "causal", "one by one")
RUN = (((0, "s"), (1, "s"), (2, "r")), ((1, "r"), (2, "s"), (0, "r")))
APART = (((0, "s"),), ((0, "r"),), ((1, "s"),), ((1, "r"),))
SAMPLES = (RUN, APART, RUSH, SWAP, CALM, ring_run(3), ring_run(4), (), ((),), ((), ((5, "s"),), ((5, "r"),)))


def some_wishes(seed, times):
    dice = random.Random(seed)
    for at in range(times):
        drawn = free_patterns(seed * 1000 + at, dice.randint(0, 5), 2, 3, 4)
        yield tuple(sorted(set(drawn)))


class Examples(unittest.TestCase):
    def test_examples(self):
        self.assertEqual(placings(ORDER, RUN), [(0, 1)])
        self.assertEqual(placings(CROSSING, RUN), [(0, 1), (0, 2), (1, 0), (2, 0)])
        self.assertEqual(how_many_placings(ORDER, RUN), 1)
        self.assertIs(is_in(CROSSING, RUN), True)
        self.assertEqual(first_placing(CROSSING, RUN), (0, 1))
        self.assertEqual(first_placing((("a", "r", "b", "r"),), RUN), (1, 0))
        self.assertEqual(
            [is_placing(ORDER, RUN, thing) for thing in ((0, 1), (1, 0), (0, 0), [0, 1], (0, 7))],
            [True, False, False, False, False])

    def test_examples_of_wishes_and_letters(self):
        self.assertIs(keeps(RUN, (ORDER,)), False)
        self.assertIs(keeps(RUN, ()), True)
        self.assertEqual(broken(RUN, (CROSSING, ORDER)), (CROSSING, ORDER))
        self.assertIs(keeps(RUN, ((("a", "r", "b", "s"), ("b", "r", "a", "r")),)), True)
        self.assertEqual(broken(RUN, (ORDER, STUCK)), (ORDER,))
        self.assertEqual(pattern_of(RUN, (0, 1)), BOTH)
        self.assertEqual(
            pattern_of(RUN, (1, 2)),
            (("a", "r", "b", "r"), ("a", "r", "b", "s"), ("a", "s", "b", "r"), ("a", "s", "b", "s")))
        self.assertIsNone(pattern_of(APART, (0, 1)))
        self.assertEqual(cut(RUN, 1), (((0, "s"), (2, "r")), ((2, "s"), (0, "r"))))
        self.assertEqual(guilty(RUN, (ORDER,)), (0, 1))
        self.assertEqual(guilty(RUN, ()), ())
        self.assertEqual(guilty(RUN, (CROSSING, ORDER)), (0,))
        with self.assertRaises(NoLetter) as caught:
            cut(RUN, 9)
        self.assertEqual(caught.exception.letter, 9)


class Placings(unittest.TestCase):
    def check(self, pattern, run):
        good = oracles.placings(pattern, run)
        self.assertEqual(placings(pattern, run), good, (pattern, run))
        self.assertEqual(how_many_placings(pattern, run), len(good))
        self.assertIs(is_in(pattern, run), bool(good))
        self.assertEqual(first_placing(pattern, run), good[0] if good else None)
        return good

    def test_against_all_rows_of_two_letters(self):
        found = {True: 0, False: 0}
        for run in [*SAMPLES, *some_runs(1, 6)]:
            for pattern in all_patterns(2):
                good = self.check(pattern, run)
                found[bool(good)] += 1
        self.assertGreater(min(found.values()), 100)

    def test_against_all_rows_of_three_and_four_letters(self):
        found = {True: 0, False: 0}
        patterns = [*small_patterns(3, 2), *free_patterns(2, 200, 3, 4, 5), CHAIN, THREE]
        dice = random.Random(3)
        for run in [*SAMPLES, *some_runs(4, 20)]:
            for pattern in dice.sample(patterns, 20):
                good = set(self.check(pattern, run))
                found[bool(good)] += 1
                for row in itertools.permutations(letters_in(run), len(names_of(pattern))):
                    self.assertIs(is_placing(pattern, run, row), row in good)
        self.assertGreater(min(found.values()), 50)

    def test_patterns_that_hold(self):
        dice = random.Random(5)
        for run in some_runs(6, 40):
            for many in (2, 3, 4):
                if len(letters_in(run)) < many:
                    continue
                row = tuple(dice.sample(letters_in(run), many))
                holding = oracles.holding(run, row)
                if holding:
                    pattern = tuple(sorted(dice.sample(holding, dice.randint(1, len(holding)))))
                    names = names_of(pattern)
                    own = tuple(row["abcd".index(name)] for name in names)
                    self.assertIs(is_placing(pattern, run, own), True)
                    self.assertIn(own, placings(pattern, run))

    def test_names_in_their_order(self):
        self.assertEqual(placings((("c", "r", "h", "s"),), CALM), [(0, 1), (0, 2), (2, 1)])
        self.assertEqual(placings((("h", "r", "c", "s"),), CALM), [(1, 0), (1, 2), (2, 0)])
        self.assertEqual(placings((("b", "r", "c", "s"), ("c", "r", "a", "s")), CALM), [(1, 0, 2)])

    def test_runs_without_letters(self):
        for run in ((), ((),), ((), ())):
            for pattern in (ANSWER, ORDER, CHAIN, STUCK):
                self.assertEqual(self.check(pattern, run), [])
                for thing in ((), (0, 1), None):
                    self.assertIs(is_placing(pattern, run, thing), False)

    def test_fewer_letters_than_names(self):
        for pattern in (CHAIN, THREE, (("a", "s", "b", "r"), ("c", "s", "d", "r"))):
            self.assertEqual(self.check(pattern, RUSH), [])

    def test_what_is_in_no_run(self):
        for run in [*SAMPLES, great_run()]:
            self.assertEqual(placings(STUCK, run), [])
            self.assertIs(is_in(STUCK, run), False)
            self.assertIsNone(first_placing(STUCK, run))
            self.assertIs(is_placing(STUCK, run, (0, 1)), False)

    def test_twelve_letters(self):
        dice = random.Random(7)
        for _ in range(4):
            run = oracles.some_run(dice, 12, 4)
            for pattern in (ORDER, CROSSING, ANSWER, CHAIN):
                self.check(pattern, run)
        apart = tuple(((letter, end),) for letter in range(12) for end in "sr")
        self.assertEqual(placings(ANSWER, apart), [])
        row = (tuple((letter, "s") for letter in range(12)), tuple((letter, "r") for letter in range(12)))
        chain = (("a", "s", "b", "s"), ("b", "s", "c", "s"), ("c", "s", "d", "s"))
        self.assertEqual(placings(chain, row), list(itertools.combinations(range(12), 4)))
        self.assertEqual(how_many_placings((("a", "s", "b", "r"), ("c", "s", "d", "r")), row), 66 * 45)

    def test_what_follows_has_the_same_placings(self):
        for run in some_runs(8, 8):
            for pattern in free_patterns(9, 30, 2, 4, 6):
                if sort_of(pattern) != "itself":
                    self.assertEqual(placings(closure(pattern), run), placings(pattern, run))

    def test_is_in_under_other_names(self):
        for run in some_runs(10, 8):
            for pattern in (ORDER, CROSSING, ANSWER, CHAIN, THREE):
                row = dict(zip("abc", "hbe"))
                other = renamed(pattern, tuple((name, row[name]) for name in names_of(pattern)))
                self.assertIs(is_in(other, run), is_in(pattern, run))
                self.assertEqual(how_many_placings(other, run), how_many_placings(pattern, run))

    def test_what_is_nearly_a_placing(self):
        for thing in (
            [0, 1], (0,), (1,), (0, 1, 2), (0, 1, 0), (0, 0), (1, 1), (1, 0), (0, 7), (False, 1), (0, True),
            (False, True), (0, None), (0, "1"), ("0", "1"), (0, (1,)), (0, [1]), ((0, 1),), (), (0, -1), "01",
            ((0, "s"), (1, "s")), ("a", "b"), (0, Unfit()), (0, NoLetter(1)), (0, 10 ** 40), 0, True, None, [(0, 1)],
        ):
            self.assertIs(is_placing(ORDER, RUN, thing), False, thing)
        self.assertIs(is_placing(ORDER, RUN, (0, 1)), True)

    def test_nothing_odd_is_a_placing(self):
        for thing in odd_things():
            for pattern in (ORDER, CROSSING, ANSWER, CHAIN, STUCK):
                for run in (RUN, SWAP, ()):
                    self.assertIs(is_placing(pattern, run, thing), False, thing)

    def test_runs_that_built_runs_tell(self):
        for pattern in [*free_patterns(11, 40, 2, 4, 16), ORDER, CROSSING, ANSWER, THREE]:
            for kind in KINDS:
                run = run_with(pattern, kind)
                if run is None:
                    self.assertIs(in_some(pattern, kind), False)
                else:
                    own = tuple(range(len(names_of(pattern))))
                    self.assertIs(is_placing(pattern, run, own), True)
                    self.assertEqual(first_placing(pattern, run), own)
                    self.assertIs(keeps(run, (pattern,)), False)

    def test_great_runs(self):
        run = run_with(GREAT_ASKS, "causal")
        self.assertEqual(len(letters_in(run)), 24)
        self.assertEqual(len(placings(CROSSING, run)), len(oracles.placings(CROSSING, run)))
        run = breaking_run((GREAT_ASKS,), "any")
        self.assertIs(is_in(CROSSING, run), True)
        self.assertEqual(placings(ANSWER, run), oracles.placings(ANSWER, run))


class Wishes(unittest.TestCase):
    def test_keeps_and_broken(self):
        found = {True: 0, False: 0}
        for run in [*SAMPLES, *some_runs(12, 20)]:
            for wish in [*some_wishes(13, 12), (CROSSING, ORDER), (ORDER, STUCK), (ANSWER,), ()]:
                there = tuple(pattern for pattern in wish if oracles.placings(pattern, run))
                self.assertEqual(broken(run, wish), there)
                self.assertIs(keeps(run, wish), there == ())
                found[there == ()] += 1
        self.assertGreater(min(found.values()), 50)

    def test_guilty_with_and_without_each_letter(self):
        found = set()
        for run in [*SAMPLES, *some_runs(14, 25, 5)]:
            for wish in [*some_wishes(15, 8), (CROSSING, ORDER), (ORDER,), (CROSSING,), (ANSWER,), ()]:
                letters = guilty(run, wish)
                self.assertEqual(letters, oracles.guilty(run, wish))
                for letter in letters_in(run):
                    self.assertIs(
                        letter in letters, not keeps(run, wish) and keeps(cut(run, letter), wish))
                found.add(len(letters))
        self.assertLessEqual({0, 1, 2, 3}, found)

    def test_what_is_ahead_by_way_of_the_letter_alone(self):
        run = (((0, "s"), (3, "s")), ((3, "r"), (4, "s")), ((4, "r"), (1, "s")), ((0, "r"),), ((1, "r"),))
        wish = ((("a", "s", "b", "s"), ("b", "s", "c", "s")),)
        self.assertEqual(guilty(run, wish), oracles.guilty(run, wish))
        self.assertEqual(guilty(run, ((("a", "s", "b", "s"), ("b", "s", "c", "s"), ("c", "s", "d", "s")),)),
                         (0, 1, 3, 4))
        self.assertIs(is_in((("a", "s", "b", "s"),), cut(cut(run, 3), 4)), False)

    def test_nobody_is_guilty_where_two_places_share_no_letter(self):
        run = RUSH + tuple(tuple((letter + 2, end) for letter, end in row) for row in RUSH)
        self.assertEqual(guilty(run, (ORDER,)), ())
        self.assertIs(keeps(run, (ORDER,)), False)
        self.assertEqual(guilty(run[:2], (ORDER,)), (0, 1))

    def test_runs_that_break_wishes(self):
        for wish in [*some_wishes(16, 30), (CROSSING, ORDER)]:
            for kind in KINDS:
                run = breaking_run(wish, kind)
                if run is not None:
                    self.assertIs(keeps(run, wish), False)
                    self.assertNotEqual(broken(run, wish), ())

    def test_a_great_run(self):
        run = great_run()
        self.assertEqual(broken(run, (CROSSING, ORDER)), ())
        self.assertIs(keeps(run, (ANSWER,)), False)
        self.assertEqual(guilty(run, (CROSSING, ORDER)), ())


class Letters(unittest.TestCase):
    def test_pattern_of_letters_in_several_orders(self):
        dice = random.Random(17)
        none = 0
        for run in [*SAMPLES, *some_runs(18, 25, 8)]:
            for many in range(2, 9):
                if len(letters_in(run)) >= many:
                    for _ in range(4):
                        row = tuple(dice.sample(letters_in(run), many))
                        expected = oracles.holding(run, row)
                        self.assertEqual(pattern_of(run, row), expected or None)
                        none += not expected
                        if expected and many < 5:
                            self.assertIs(is_pattern(expected), True)
                            self.assertIn(
                                tuple(row["abcd".index(name)] for name in names_of(expected)),
                                placings(expected, run))
        self.assertGreater(none, 3)

    def test_all_orders(self):
        for run in (RUN, CALM, SWAP):
            for many in (2, 3):
                for row in itertools.permutations(letters_in(run), many):
                    self.assertEqual(pattern_of(run, row), oracles.holding(run, row) or None)

    def test_pattern_of_what_was_built(self):
        for pattern in [*free_patterns(19, 40, 2, 8), GREAT, GREAT_ASKS]:
            run = run_with(pattern, "any")
            if run is not None:
                names = names_of(pattern)
                own = renamed(pattern, tuple(zip(names, "abcdefgh")))
                self.assertEqual(pattern_of(run, tuple(range(len(names)))), closure(own))

    def test_none_where_nothing_is_ahead(self):
        run = tuple(((letter, end),) for letter in range(8) for end in "sr")
        for many in range(2, 9):
            self.assertIsNone(pattern_of(run, tuple(range(many))))
            self.assertIsNone(pattern_of(run, tuple(range(8))[::-1][:many]))

    def test_cut_end_by_end(self):
        runs = [*SAMPLES, *some_runs(20, 25), great_run()]
        runs += [run_with(pattern, "any") for pattern in (ORDER, CROSSING, ANSWER, THREE, GREAT, GREAT_ASKS)]
        for run in runs:
            for letter in letters_in(run):
                found = cut(run, letter)
                self.assertEqual(found, oracles.without(run, letter))
                self.assertEqual(len(found), len(run))
                self.assertIs(is_run(found), True)
                self.assertEqual(letters_in(found), tuple(own for own in letters_in(run) if own != letter))

    def test_cut_to_the_last_letter(self):
        self.assertEqual(cut((((5, "s"),), (), ((5, "r"),)), 5), ((), (), ()))
        self.assertEqual(cut(cut(RUSH, 0), 1), ((), ()))

    def test_letters_that_are_not_there(self):
        for run in (RUN, (), ((), ()), great_run(), run_with(GREAT, "any")):
            for letter in (99, 10 ** 30):
                with self.assertRaises(NoLetter) as caught:
                    cut(run, letter)
                self.assertEqual(caught.exception.letter, letter)

    def test_the_first_letter_that_is_not_there(self):
        for letters, first in (
            ((0, 7), 7), ((7, 0), 7), ((9, 8), 9), ((8, 9), 8), ((0, 1, 2, 5, 4, 3), 5), ((0, 3, 1, 4), 3),
            ((10 ** 30, 3), 10 ** 30), ((0, 1, 2, 3, 4, 5, 6, 7), 3),
        ):
            with self.assertRaises(NoLetter) as caught:
                pattern_of(RUN, letters)
            self.assertEqual(caught.exception.letter, first)
            with self.assertRaises(NoLetter) as caught:
                pattern_of(RUN, list(letters))
            self.assertEqual(caught.exception.letter, first)


if __name__ == "__main__":
    unittest.main()
