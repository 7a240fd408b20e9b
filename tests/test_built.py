"""built.py [8], and what the overview [1] says in (b) of RUNS that are built."""

import itertools
import random
import unittest

from barredcrossings.built import (
    end_order, how_many_name_rows, how_many_orders, is_name_row, is_run_with, name_row, nearest_pairs, run_with,
)
from barredcrossings.errors import Unfit
from barredcrossings.patterns import fewest_bonds, names_of
from barredcrossings.runs import is_causal, is_one_by_one, is_run, kind_of
from barredcrossings.sorts import in_some, sort_of
from tests import oracles
from tests.samples import (
    ANSWER, BOTH, CALM, CHAIN, CROSSING, EVERY_BOND, GREAT, GREAT_ASKS, GREAT_ROUND, LONG_AND_SHORT, ORDER, RUSH,
    STUCK, SWAP, THREE, all_patterns, free_patterns, great_run, odd_things, ring_pattern, small_patterns, some_patterns,
)

KINDS = ("any", "causal", "one by one")
UNFIT = (STUCK, GREAT_ROUND, EVERY_BOND, (("a", "r", "b", "s"), ("b", "r", "c", "s"), ("c", "r", "a", "s")))


def never_patterns(seed, times):
    """PATTERNS without a RING, of up to 16 BONDS: each BOND goes onward in a row of the names."""
    dice = random.Random(seed)
    for _ in range(times):
        row = dice.sample(oracles.NAMES, dice.randint(2, 8))
        places = {name: place for place, name in enumerate(row)}
        onward = [
            bond for bond in EVERY_BOND
            if bond[0] in places and bond[2] in places and places[bond[0]] < places[bond[2]]
        ]
        yield tuple(sorted(dice.sample(onward, min(len(onward), dice.randint(1, 16)))))


def asking_patterns(seed, times):
    """PATTERNS of the SORT "asks", of one RING or more."""
    dice = random.Random(seed)
    for _ in range(times):
        names = dice.sample(oracles.NAMES, dice.randint(2, 8))
        pattern = ring_pattern(names, dice.sample(names, dice.randint(2, len(names))), dice)
        for bond in dice.sample(EVERY_BOND, 30):
            more = tuple(sorted({*pattern, bond}))
            if len(more) <= 16 and sort_of(more) == "asks":
                pattern = more
        yield pattern


def exchanged(run):
    """The rows with two neighbours of one row exchanged, in all ways."""
    for house, row in enumerate(run):
        for at in range(len(row) - 1):
            new = row[:at] + (row[at + 1], row[at]) + row[at + 2:]
            yield run[:house] + (new,) + run[house + 1:]


class Examples(unittest.TestCase):
    def test_examples(self):
        self.assertEqual(end_order(ORDER), [
            (("a", "s"), ("a", "r")), (("a", "s"), ("b", "r")), (("a", "s"), ("b", "s")),
            (("b", "r"), ("a", "r")), (("b", "s"), ("a", "r")), (("b", "s"), ("b", "r"))])
        self.assertEqual(nearest_pairs(ORDER), [
            (("a", "s"), ("b", "s")), (("b", "r"), ("a", "r")), (("b", "s"), ("b", "r"))])
        self.assertIs(is_run_with(ORDER, "any", RUSH), True)
        self.assertIs(is_run_with(ORDER, "causal", RUSH), False)
        self.assertIs(is_run_with(ORDER, "any", RUSH[::-1]), True)
        self.assertIs(is_run_with(ANSWER, "one by one", CALM), True)
        self.assertIs(is_run_with(ANSWER, "any", RUSH), False)
        self.assertIs(is_run_with(ORDER, "any", CALM[:1]), False)
        self.assertIsNone(run_with(ORDER, "causal"))
        self.assertIsNone(run_with(STUCK, "any"))
        self.assertIsNone(run_with(THREE, "one by one"))
        for pattern, kind in ((ORDER, "any"), (CROSSING, "causal"), (THREE, "causal"), (ANSWER, "one by one")):
            self.assertIs(is_run_with(pattern, kind, run_with(pattern, kind)), True)
        self.assertEqual(name_row(ANSWER), ("a", "b"))
        self.assertIsNone(name_row(CROSSING))
        self.assertIs(is_name_row(ANSWER, ("a", "b")), True)
        self.assertIs(is_name_row(ANSWER, ("b", "a")), False)
        self.assertEqual(how_many_name_rows((("a", "s", "c", "s"), ("b", "r", "c", "s"))), 2)
        self.assertEqual(how_many_name_rows(CROSSING), 0)
        self.assertEqual(
            [how_many_orders(pattern) for pattern in (ORDER, CROSSING, ANSWER, (("a", "s", "b", "s"),), STUCK)],
            [1, 4, 1, 3, 0])
        with self.assertRaises(Unfit):
            nearest_pairs(STUCK)


class Told(unittest.TestCase):
    def check(self, pattern):
        pairs = oracles.told_pairs(pattern)
        self.assertEqual(end_order(pattern), sorted(pairs))
        ends = {end for pair in pairs for end in pair}
        nearest = sorted(
            (near, far) for near, far in pairs
            if not any((near, end) in pairs and (end, far) in pairs for end in ends))
        self.assertEqual(nearest_pairs(pattern), nearest)
        self.assertEqual(
            tuple(near + far for near, far in nearest if near[0] != far[0]), fewest_bonds(pattern))

    def check_unfit(self, pattern):
        for call in (end_order, nearest_pairs):
            with self.assertRaises(Unfit):
                call(pattern)

    def test_against_the_words(self):
        unfit = 0
        for pattern in [*all_patterns(2), *small_patterns(3, 2), *some_patterns(1, 150), GREAT, GREAT_ASKS, BOTH]:
            if oracles.is_in_no_run(pattern):
                self.check_unfit(pattern)
                unfit += 1
            else:
                self.check(pattern)
        self.assertGreater(unfit, 10)

    def test_unfit_is_raised_by_these_two_alone(self):
        for pattern in UNFIT:
            self.assertEqual(sort_of(pattern), "itself")
            self.check_unfit(pattern)
            for kind in KINDS:
                self.assertIsNone(run_with(pattern, kind))
                for thing in (RUSH, SWAP, CALM, great_run(), None, ()):
                    self.assertIs(is_run_with(pattern, kind, thing), False)
            self.assertIsNone(name_row(pattern))
            self.assertIs(is_name_row(pattern, names_of(pattern)), False)
            self.assertEqual(how_many_name_rows(pattern), 0)
            self.assertEqual(how_many_orders(pattern), 0)

    def test_s_and_r_of_one_name_are_nearest_unless_another_end_is_between(self):
        self.assertIn((("a", "s"), ("a", "r")), nearest_pairs(ANSWER))
        self.assertNotIn((("a", "s"), ("a", "r")), nearest_pairs(ORDER))
        self.assertEqual(
            nearest_pairs(ANSWER),
            [(("a", "r"), ("b", "s")), (("a", "s"), ("a", "r")), (("b", "s"), ("b", "r"))])


class BuiltRuns(unittest.TestCase):
    def check(self, pattern):
        names = names_of(pattern)
        letters = tuple(range(len(names)))
        for kind in KINDS:
            run = run_with(pattern, kind)
            if not in_some(pattern, kind):
                self.assertIsNone(run)
                continue
            self.assertIs(is_run(run), True)
            self.assertTrue(oracles.is_run(run))
            self.assertTrue(oracles.is_of_kind(run, kind), (pattern, kind))
            self.assertTrue(oracles.is_placing(pattern, run, letters))
            self.assertIs(is_run_with(pattern, kind, run), True)
            self.assertLessEqual(len(run), 2 * len(names))
            self.assertLessEqual(len(oracles.letters(run)), len(names) + len(pattern))
            self.check_nothing_more_is_ahead(pattern, run)

    def check_nothing_more_is_ahead(self, pattern, run):
        names = names_of(pattern)
        told = {
            ((names.index(near[0]), near[1]), (names.index(far[0]), far[1]))
            for near, far in oracles.told_pairs(pattern)
        }
        many = len(names)
        ahead = {(near, far) for near, far in oracles.ahead_pairs(run) if near[0] < many and far[0] < many}
        self.assertEqual(ahead, told)

    def test_all_patterns_of_two_names(self):
        for pattern in all_patterns(2):
            self.check(pattern)

    def test_small_patterns_of_three_names(self):
        for pattern in small_patterns(3, 2):
            self.check(pattern)

    def test_patterns_of_each_sort(self):
        seen = {"itself": 0, "marks": 0, "asks": 0, "never": 0}
        for pattern in [
            *some_patterns(2, 60), *never_patterns(3, 60), *asking_patterns(4, 60), *free_patterns(5, 30, 3, 8),
            ORDER, CROSSING, ANSWER, STUCK, THREE, BOTH, CHAIN, LONG_AND_SHORT,
        ]:
            self.check(pattern)
            seen[sort_of(pattern)] += 1
        self.assertGreater(min(seen.values()), 15)

    def test_sixteen_bonds_over_eight_names(self):
        for pattern in (GREAT, GREAT_ASKS, GREAT_ROUND):
            self.check(pattern)
        loose = tuple(sorted(
            bond for one, other in zip("abcdefgh", "hgfedcba") if one < other
            for bond in ((one, "s", other, "r"), (one, "r", other, "r"), (one, "s", other, "s"), (one, "r", other, "s"))
        ))
        self.assertEqual((len(loose), len(names_of(loose)), sort_of(loose)), (16, 8, "never"))
        self.check(loose)

    def test_letters_that_go_one_by_one_need_one_order_at_all_houses(self):
        # If c went ahead of b here, the letters between the houses would be in each other's way.
        for names in itertools.permutations("abc"):
            x, y, z = names
            pattern = tuple(sorted([(x, "s", y, "r"), (y, "s", z, "s"), (x, "s", z, "s")]))
            self.assertEqual(sort_of(pattern), "never")
            self.check(pattern)
            pattern = tuple(sorted([(x, "s", y, "r"), (y, "s", z, "r"), (x, "r", z, "r")]))
            self.check(pattern)

    def test_somewhat_beyond_the_bounds(self):
        bonds = tuple(bond for bond in EVERY_BOND if bond[0] < bond[2])
        for kind in KINDS:
            run = run_with(bonds, kind)
            self.assertTrue(oracles.is_run(run) and oracles.is_one_by_one(run))
            self.assertIs(is_run_with(bonds, kind, run), True)


class RunsWith(unittest.TestCase):
    def check(self, pattern, run):
        many = len(names_of(pattern))
        good = oracles.is_run(run) and set(range(many)) <= set(oracles.letters(run))
        good = good and oracles.is_placing(pattern, run, tuple(range(many)))
        for kind in KINDS:
            expected = good and oracles.is_of_kind(run, kind)
            self.assertIs(is_run_with(pattern, kind, run), expected, (pattern, kind, run))
        return good

    def test_runs_with_ends_exchanged(self):
        found = {True: 0, False: 0}
        for pattern in (ORDER, CROSSING, ANSWER, THREE, BOTH, CHAIN, *some_patterns(6, 4)):
            run = run_with(pattern, "any")
            for rows in exchanged(run) if run else ():
                found[bool(self.check(pattern, rows))] += 1
        for run in (RUSH, SWAP, CALM):
            for rows in [run, *exchanged(run)]:
                for pattern in all_patterns(2):
                    found[bool(self.check(pattern, rows))] += 1
        self.assertGreater(min(found.values()), 20)

    def test_runs_that_come(self):
        dice = random.Random(7)
        patterns = [pattern for pattern in small_patterns(3, 2) if sort_of(pattern) != "itself"]
        found = {True: 0, False: 0}
        for _ in range(25):
            for run in (oracles.some_run(dice, 4, 3), oracles.some_calm_run(dice, 4, 2)):
                for pattern in dice.sample(patterns, 10):
                    found[bool(self.check(pattern, run))] += 1
        self.assertGreater(min(found.values()), 20)

    def test_runs_of_another_kind(self):
        run = run_with(CROSSING, "causal")
        self.assertEqual(kind_of(run), "causal")
        self.assertEqual([is_run_with(CROSSING, kind, run) for kind in KINDS], [True, True, False])
        run = run_with(ORDER, "any")
        self.assertEqual(kind_of(run), "any")
        self.assertEqual([is_run_with(ORDER, kind, run) for kind in KINDS], [True, False, False])
        self.assertEqual([is_run_with(ANSWER, kind, CALM) for kind in KINDS], [True, True, True])

    def test_letters_that_overtake_far_from_the_pattern(self):
        run = run_with(ANSWER, "any")
        far = tuple(tuple((letter + 50, end) for letter, end in row) for row in RUSH)
        self.assertEqual([is_run_with(ANSWER, kind, run + far) for kind in KINDS], [True, False, False])
        cross = (((60, "s"), (61, "r")), ((61, "s"), (60, "r")))
        self.assertEqual([is_run_with(ANSWER, kind, run + cross) for kind in KINDS], [True, True, False])

    def test_runs_with_other_letters(self):
        for pattern in (ORDER, CROSSING, ANSWER, THREE):
            run = run_with(pattern, "any")
            most = len(oracles.letters(run))
            for swap in ({0: most}, {1: most + 5}, {0: 10 ** 30}, {k: k + 1 for k in range(most)}):
                rows = tuple(tuple((swap.get(letter, letter), end) for letter, end in row) for row in run)
                self.assertTrue(oracles.is_run(rows))
                self.assertIs(is_run_with(pattern, "any", rows), False)
            self.check(pattern, tuple(
                tuple(({0: 1, 1: 0}.get(letter, letter), end) for letter, end in row) for row in run))

    def test_runs_of_whatever_size(self):
        run = run_with(ANSWER, "one by one")
        more = tuple(((letter, "s"),) for letter in range(100, 140))
        more += tuple(((letter, "r"),) for letter in range(100, 140))
        for kind in KINDS:
            self.assertIs(is_run_with(ANSWER, kind, run + more + ((),) * 9), True)
            self.assertIs(is_run_with(ANSWER, kind, more + run[::-1]), True)
            self.assertIs(is_run_with(ANSWER, kind, more), False)

    def test_the_letters_stand_for_the_names_in_their_order(self):
        pattern = (("c", "r", "h", "s"),)
        self.assertIs(is_run_with(pattern, "one by one", CALM), True)
        self.assertIs(is_run_with((("h", "r", "c", "s"),), "one by one", CALM), False)

    def test_a_letter_of_the_pattern_that_the_run_has_not(self):
        run = (((0, "s"),), ((0, "r"),))
        for pattern in (ANSWER, ORDER, (("b", "r", "a", "s"),), GREAT):
            for thing in (run, (), ((), ())):
                self.assertIs(is_run_with(pattern, "any", thing), False)

    def test_what_is_nearly_a_run(self):
        good = run_with(ANSWER, "any")
        for thing in (
            list(good), tuple(list(row) for row in good), (list(good[0]),) + good[1:], (good,), good + (None,),
            good + (((99, "s"),),), good + (((99, "s"), (99, "r")),), good + good, good[1:], good + ([],),
            good + (((True, "s"),), ((True, "r"),)), good + (((-1, "s"),), ((-1, "r"),)), good + ((("a", "s"),),),
            tuple(tuple((letter == 1, end) if letter < 2 else (letter, end) for letter, end in row) for row in good),
            tuple(tuple([letter, end] for letter, end in row) for row in good), good + (Unfit(),), good + ((Unfit(),),),
        ):
            for kind in KINDS:
                self.assertIs(is_run_with(ANSWER, kind, thing), False, thing)
        self.assertIs(is_run_with(ANSWER, "any", good + ((),)), True)

    def test_nothing_odd_is_a_run_with_it(self):
        for pattern in (ORDER, ANSWER, STUCK, GREAT):
            for thing in odd_things():
                for kind in KINDS:
                    self.assertIs(is_run_with(pattern, kind, thing), False, thing)

    def test_the_greatest(self):
        run = run_with(GREAT_ASKS, "causal")
        self.assertEqual((len(run), len(oracles.letters(run))), (16, 24))
        self.assertEqual([is_run_with(GREAT_ASKS, kind, run) for kind in KINDS], [True, True, False])
        self.assertIs(is_run_with(GREAT, "any", run), False)


class NameRows(unittest.TestCase):
    def check(self, pattern):
        good = oracles.name_rows(pattern)
        self.assertEqual(how_many_name_rows(pattern), len(good))
        self.assertIs(sort_of(pattern) == "never", bool(good))
        if good:
            self.assertIn(name_row(pattern), good)
            self.assertIs(is_name_row(pattern, name_row(pattern)), True)
        else:
            self.assertIsNone(name_row(pattern))
        return set(good)

    def test_against_all_rows(self):
        for pattern in [*all_patterns(2), *small_patterns(3, 2), *free_patterns(8, 60, 3, 5, bonds=6), CHAIN, THREE]:
            good = self.check(pattern)
            for row in itertools.permutations(names_of(pattern)):
                self.assertIs(is_name_row(pattern, row), row in good)

    def test_without_a_ring(self):
        for pattern in never_patterns(9, 60):
            if len(names_of(pattern)) < 7:
                good = self.check(pattern)
                for row in itertools.permutations(names_of(pattern)):
                    self.assertIs(is_name_row(pattern, row), row in good)
            else:
                self.assertIs(is_name_row(pattern, name_row(pattern)), True)

    def test_eight_names(self):
        self.assertEqual(how_many_name_rows(GREAT), 1)
        self.assertEqual(name_row(GREAT), tuple("hgfedcba"))
        self.assertIs(is_name_row(GREAT, tuple("hgfedcba")), True)
        self.assertIs(is_name_row(GREAT, tuple("hgfedcab")), False)
        apart = tuple((one, "s", other, "r") for one, other in zip("aceg", "bdfh"))
        self.assertEqual(how_many_name_rows(apart), 40320 // 16)
        star = tuple(("a", end, other, "r") for other in "bcdefgh" for end in "s")
        self.assertEqual(how_many_name_rows(star), 5040)
        self.assertEqual([how_many_name_rows(pattern) for pattern in (GREAT_ASKS, GREAT_ROUND)], [0, 0])

    def test_several_bonds_between_two_names_count_once(self):
        pattern = tuple(bond for bond in oracles.all_bonds(3) if bond[0] == "a")
        self.assertEqual((len(pattern), how_many_name_rows(pattern)), (8, 2))

    def test_letters_one_by_one_stand_in_such_a_row(self):
        dice = random.Random(10)
        for _ in range(40):
            run = oracles.some_calm_run(dice, 4, 2)
            self.assertIs(is_one_by_one(run) and is_causal(run), True)
            pattern = oracles.holding(run, (0, 1, 2, 3))
            if pattern:
                for row in oracles.letter_rows(run):
                    own = tuple("abcd"[letter] for letter in row if "abcd"[letter] in names_of(pattern))
                    self.assertIs(is_name_row(pattern, own), True)

    def test_what_is_nearly_a_name_row(self):
        for thing in (
            ["a", "b", "c"], "abc", ("abc",), ("a", "b"), ("a", "b", "c", "d"), ("a", "b", "c", "c"),
            ("a", "a", "b", "c"), ("a", "b", "b"), ("a", "c", "b"), ("c", "b", "a"), ("a", "b", None),
            ("a", "b", 2), ("a", "b", True), ("a", "b", ("c",)), ("a", "b", ["c"]), (("a", "b", "c"),),
            ("A", "b", "c"), ("a", "b", ""), (), ("a", "b", Unfit()), (0, 1, 2), ("a", "b", "c", None),
            (("a", "s"), ("b", "s"), ("c", "s")), ("a", "b", "h"),
        ):
            self.assertIs(is_name_row(CHAIN, thing), False, thing)
        self.assertIs(is_name_row(CHAIN, ("a", "b", "c")), True)

    def test_nothing_odd_is_a_name_row(self):
        for pattern in (ORDER, ANSWER, CHAIN, STUCK, GREAT):
            for thing in odd_things():
                self.assertIs(is_name_row(pattern, thing), False, thing)


class Orders(unittest.TestCase):
    def test_against_all_rows_of_the_ends(self):
        for pattern in all_patterns(2):
            self.assertEqual(how_many_orders(pattern), len(oracles.end_rows(pattern)))
        for pattern in [*free_patterns(11, 30, 3, 3, bonds=4), THREE, CHAIN]:
            self.assertEqual(how_many_orders(pattern), len(oracles.end_rows(pattern)))

    def test_against_slow_counts_of_up_to_five_names(self):
        for pattern in [*free_patterns(12, 40, 4, 5), *never_patterns(13, 40)]:
            if len(names_of(pattern)) <= 5 and len(pattern) > 3:
                self.assertEqual(how_many_orders(pattern), oracles.how_many_end_rows(pattern))

    def test_five_names_in_few_bonds(self):
        chain = (("a", "r", "b", "s"), ("b", "r", "c", "s"), ("c", "r", "d", "s"), ("d", "r", "e", "s"))
        self.assertEqual(how_many_orders(chain), 1)
        apart = (("a", "s", "b", "s"), ("c", "s", "d", "s"), ("d", "s", "e", "s"))
        self.assertEqual(how_many_orders(apart), oracles.how_many_end_rows(apart))

    def test_none_just_for_itself(self):
        for pattern in [*small_patterns(3, 2), *free_patterns(14, 100, 3, 5)]:
            self.assertIs(how_many_orders(pattern) == 0, sort_of(pattern) == "itself")


if __name__ == "__main__":
    unittest.main()
