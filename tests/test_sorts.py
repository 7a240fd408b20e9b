"""sorts.py [7], and what the overview [1] says in (d)."""

import itertools
import random
import unittest

from barredcrossings.errors import Unfit
from barredcrossings.patterns import closure, fewest_bonds, is_pattern, names_of, renamed, turned_about
from barredcrossings.rings import least_turns
from barredcrossings.sorts import (
    core, core_size, in_some, is_core, is_dearer, loose_bonds, mending_bonds, sort_of, sorts_without,
)
from tests import oracles
from tests.samples import (
    ANSWER, BOTH, CHAIN, CROSSING, EVERY_BOND, GREAT, GREAT_ASKS, GREAT_ROUND, LONG_AND_SHORT, ORDER, STUCK, THREE,
    all_patterns, free_patterns, odd_things, ring_pattern, small_patterns, some_patterns,
)

SORTS = ("itself", "marks", "asks", "never")
KINDS = ("any", "causal", "one by one")


def rest(pattern, bond):
    return tuple(own for own in pattern if own != bond)


class Examples(unittest.TestCase):
    def test_examples(self):
        self.assertEqual(
            [sort_of(pattern) for pattern in (STUCK, ORDER, BOTH, CROSSING, THREE, ANSWER)],
            ["itself", "marks", "marks", "asks", "asks", "never"])
        self.assertIs(is_dearer("asks", "marks"), True)
        self.assertIs(is_dearer("never", "never"), False)
        self.assertEqual(
            [[in_some(pattern, kind) for kind in KINDS] for pattern in (STUCK, ORDER, CROSSING, ANSWER)],
            [[False, False, False], [True, False, False], [True, True, False], [True, True, True]])
        self.assertEqual(
            sorts_without(ORDER), [(("a", "s", "b", "s"), "never"), (("b", "r", "a", "r"), "never")])
        self.assertEqual(sorts_without(ANSWER), [(("a", "r", "b", "s"), None)])
        self.assertIs(loose_bonds(BOTH) == BOTH, True)
        self.assertEqual(loose_bonds(ORDER), ())
        self.assertEqual(loose_bonds(THREE), ())
        self.assertEqual(
            mending_bonds(ANSWER, "itself"),
            [("b", "r", "a", "r"), ("b", "r", "a", "s"), ("b", "s", "a", "r"), ("b", "s", "a", "s")])
        self.assertEqual(mending_bonds(CROSSING, "itself"), [("a", "r", "b", "s"), ("b", "r", "a", "s")])
        self.assertEqual(len(mending_bonds(CROSSING, "marks")), 6)
        self.assertEqual(mending_bonds(ANSWER, "never")[0], ("a", "r", "b", "r"))
        self.assertEqual(core_size(BOTH), 2)
        self.assertIs(is_core(BOTH, ORDER), True)
        self.assertIs(is_core(BOTH, CROSSING), False)
        self.assertIs(is_core(BOTH, core(BOTH)), True)
        self.assertEqual(core_size(ANSWER), 1)
        self.assertEqual(core_size(THREE), 3)


class TheSorts(unittest.TestCase):
    def test_is_dearer_of_all_pairs(self):
        for (x, one), (y, other) in itertools.product(enumerate(SORTS), repeat=2):
            self.assertIs(is_dearer(one, other), x > y)

    def test_sort_of_against_slow_searches(self):
        found = dict.fromkeys(SORTS, 0)
        for pattern in [*all_patterns(2), *small_patterns(3, 3), *free_patterns(1, 100, 3, 5, bonds=8)]:
            sort = oracles.sort_of(pattern)
            self.assertEqual(sort_of(pattern), sort)
            found[sort] += 1
        self.assertGreater(min(found.values()), 10)

    def test_sort_of_one_ring_by_its_turns(self):
        dice = random.Random(2)
        for many in range(2, 9):
            for turning in range(many + 1):
                names = dice.sample(oracles.NAMES, many)
                pattern = ring_pattern(names, names[:turning], dice)
                self.assertEqual(sort_of(pattern), ("itself", "marks", "asks")[min(turning, 2)])

    def test_sixteen_bonds_over_eight_names(self):
        self.assertEqual(
            [sort_of(pattern) for pattern in (GREAT, GREAT_ROUND, GREAT_ASKS)], ["never", "itself", "asks"])
        self.assertEqual(sort_of(EVERY_BOND), "itself")

    def test_turned_about_is_of_the_same_sort(self):
        for pattern in [*all_patterns(2), *small_patterns(3, 2), *some_patterns(3, 200), *free_patterns(4, 200, 3, 8)]:
            self.assertEqual(sort_of(turned_about(pattern)), sort_of(pattern))

    def test_other_names_and_what_follows_change_no_sort(self):
        turned = tuple(zip("abcdefgh", "cfhadbge"))
        for pattern in some_patterns(5, 200):
            own = tuple(pair for pair in turned if pair[0] in names_of(pattern))
            self.assertEqual(sort_of(renamed(pattern, own)), sort_of(pattern))
            if sort_of(pattern) == "itself":
                with self.assertRaises(Unfit):
                    closure(pattern)
            else:
                self.assertEqual(sort_of(closure(pattern)), sort_of(pattern))
                self.assertEqual(sort_of(fewest_bonds(pattern)), sort_of(pattern))

    def test_itself_is_what_is_in_no_run(self):
        for pattern in [*all_patterns(2), *small_patterns(3, 3), *free_patterns(6, 300, 3, 8)]:
            self.assertIs(sort_of(pattern) == "itself", oracles.is_in_no_run(pattern))


class InRuns(unittest.TestCase):
    """The guarantees: in which kinds of RUNS PATTERNS of each SORT are."""

    def test_in_some_goes_by_the_sort(self):
        there = {"itself": 0, "marks": 1, "asks": 2, "never": 3}
        for pattern in [
            *all_patterns(2), *small_patterns(3, 2), *some_patterns(7, 100), GREAT, GREAT_ROUND, GREAT_ASKS,
        ]:
            for at, kind in enumerate(KINDS):
                self.assertIs(in_some(pattern, kind), at < there[sort_of(pattern)])

    def check_all_that_holds(self, run, many):
        """The SORT of all BONDS that hold for letters; with fewer BONDS it is as dear or dearer."""
        kinds = [kind for kind in KINDS if oracles.is_of_kind(run, kind)]
        for placed in itertools.permutations(oracles.letters(run), many):
            pattern = oracles.holding(run, placed)
            if pattern:
                for kind in kinds:
                    self.assertIs(in_some(pattern, kind), True, (run, placed))
        return kinds[-1]

    def test_what_is_not_in_some_run_of_a_kind_is_in_none_that_comes(self):
        dice = random.Random(8)
        found = dict.fromkeys(KINDS, 0)
        for _ in range(60):
            run = oracles.some_run(dice, 4, dice.randint(2, 5))
            found[self.check_all_that_holds(run, 3)] += 1
            run = oracles.some_calm_run(dice, 4, dice.randint(2, 3))
            found[self.check_all_that_holds(run, 4)] += 1
        self.assertGreater(min(found.values()), 5)

    def test_all_runs_of_two_letters(self):
        ends = [(0, "s"), (0, "r"), (1, "s"), (1, "r")]
        many = 0
        for row in itertools.permutations(ends):
            for houses in itertools.product(range(4), repeat=4):
                run = tuple(
                    tuple(end for end, own in zip(row, houses) if own == house) for house in range(4))
                if oracles.is_run(run):
                    self.check_all_that_holds(run, 2)
                    many += 1
        self.assertGreater(many, 100)

    def test_what_is_in_some_run_of_a_kind_comes_in_one(self):
        # With letters between the houses of the ends all that is told is there, and no more.
        for pattern in all_patterns(2):
            if sort_of(pattern) == "itself":
                continue
            run = oracles.run_of_told(fewest_bonds(pattern))
            self.assertTrue(oracles.is_placing(pattern, run, (0, 1)))
            for kind in KINDS:
                self.assertIs(in_some(pattern, kind), oracles.is_of_kind(run, kind), (pattern, kind))


class BondByBond(unittest.TestCase):
    def check(self, pattern):
        sort = sort_of(pattern)
        expected = [
            (bond, sort_of(rest(pattern, bond)) if len(pattern) > 1 else None) for bond in pattern
        ]
        self.assertEqual(sorts_without(pattern), expected)
        self.assertEqual(loose_bonds(pattern), tuple(bond for bond, own in expected if own == sort))
        names = names_of(pattern)
        others = [
            (bond, sort_of(tuple(sorted(pattern + (bond,))))) for bond in EVERY_BOND
            if bond[0] in names and bond[2] in names and bond not in pattern
        ]
        for at, dearest in enumerate(SORTS):
            self.assertEqual(
                mending_bonds(pattern, dearest), [bond for bond, own in others if own in SORTS[:at + 1]])

    def test_all_patterns_of_two_names(self):
        for pattern in all_patterns(2):
            self.check(pattern)

    def test_patterns_of_three_names_and_more(self):
        for pattern in [*free_patterns(9, 60, 3, 4, bonds=6), *some_patterns(10, 10), THREE, CHAIN, LONG_AND_SHORT]:
            self.check(pattern)

    def test_sixteen_bonds_over_eight_names(self):
        for pattern in (GREAT, GREAT_ROUND, GREAT_ASKS):
            self.check(pattern)
        self.assertEqual(loose_bonds(GREAT), GREAT)
        self.assertEqual(loose_bonds(GREAT_ROUND), GREAT_ROUND)
        self.assertEqual(len(mending_bonds(GREAT, "never")), 224 - 16)
        self.assertEqual(len(mending_bonds(GREAT_ROUND, "itself")), 224 - 16)

    def test_a_pattern_of_one_bond(self):
        for bond in oracles.all_bonds(2):
            self.assertEqual(sorts_without((bond,)), [(bond, None)])
            self.assertEqual(loose_bonds((bond,)), ())
            self.assertEqual(len(mending_bonds((bond,), "never")), 7)
            self.check((bond,))

    def test_nothing_in_the_pattern_mends_it(self):
        every = oracles.all_bonds(2)
        for sort in SORTS:
            self.assertEqual(mending_bonds(every, sort), [])

    def test_bonds_of_other_names_do_not_mend(self):
        found = mending_bonds((("c", "r", "h", "s"),), "never")
        self.assertEqual(names_of(found), ("c", "h"))
        self.assertEqual(found, sorted(found))

    def test_no_bond_makes_a_pattern_dearer(self):
        for pattern in free_patterns(11, 50, 3, 4, bonds=5):
            self.assertEqual(
                mending_bonds(pattern, sort_of(pattern)), mending_bonds(pattern, "never"))


class Cores(unittest.TestCase):
    def check(self, pattern):
        sort = sort_of(pattern)
        good = []
        size = 0
        while not good:
            size += 1
            good = [part for part in itertools.combinations(pattern, size) if oracles.sort_of(part) == sort]
        self.assertEqual(core_size(pattern), size)
        self.assertIn(core(pattern), good)
        for many in range(1, min(len(pattern), size + 1) + 1):
            for part in itertools.combinations(pattern, many):
                self.assertIs(is_core(pattern, part), part in good)
        return sort, size

    def test_against_all_sets_of_bonds(self):
        seen = set()
        for pattern in [*all_patterns(2), *free_patterns(12, 150, 3, 4, bonds=8), *small_patterns(3, 2)]:
            seen.add(self.check(pattern))
        self.assertLessEqual(
            {("never", 1), ("asks", 2), ("marks", 2), ("itself", 2), ("itself", 3)}, seen)

    def test_rings_of_every_number_of_turns(self):
        dice = random.Random(13)
        for many in range(2, 6):
            for turning in range(many + 1):
                names = dice.sample(oracles.NAMES, many)
                pattern = ring_pattern(names, names[:turning], dice)
                self.assertEqual(self.check(pattern), (sort_of(pattern), many))

    def test_the_shortest_ring_may_turn_more_often_than_the_least(self):
        self.assertEqual((least_turns(LONG_AND_SHORT), sort_of(LONG_AND_SHORT)), (2, "asks"))
        self.assertEqual(core_size(LONG_AND_SHORT), 3)
        self.assertEqual(core(LONG_AND_SHORT), THREE)
        self.assertEqual(self.check(LONG_AND_SHORT), ("asks", 3))

    def test_a_shorter_ring_of_a_dearer_sort_is_no_core(self):
        pattern = tuple(sorted(CROSSING + (("c", "s", "d", "s"), ("d", "s", "e", "s"), ("e", "r", "c", "r"))))
        self.assertEqual(self.check(pattern), ("marks", 3))
        self.assertEqual(core(pattern), pattern[2:])
        self.assertIs(is_core(pattern, CROSSING), False)
        pattern = tuple(sorted(ORDER + (("c", "s", "d", "s"), ("d", "s", "e", "s"), ("e", "r", "c", "s"))))
        self.assertEqual(self.check(pattern), ("itself", 3))

    def test_sixteen_bonds_over_eight_names(self):
        self.assertEqual([core_size(pattern) for pattern in (GREAT, GREAT_ROUND, GREAT_ASKS)], [1, 8, 2])
        for pattern in (GREAT, GREAT_ROUND, GREAT_ASKS):
            self.assertIs(is_core(pattern, core(pattern)), True)
            self.assertIs(is_core(pattern, pattern), False)
            self.assertLessEqual(set(core(pattern)), set(pattern))
        for bond in GREAT:
            self.assertIs(is_core(GREAT, (bond,)), True)

    def test_large_patterns_by_their_rings(self):
        for pattern in free_patterns(14, 15, 5, 8):
            found = oracles.rings_by_names(pattern)
            sort = oracles.sort_of(pattern, found)
            few = 1
            if sort in ("itself", "marks"):
                few = len(oracles.least_of(found)[0])
            elif sort == "asks":
                few = min(len(ring) for ring in found)
            self.assertEqual((sort_of(pattern), core_size(pattern)), (sort, few))
            self.assertIs(is_pattern(core(pattern)), True)
            self.assertEqual((len(core(pattern)), sort_of(core(pattern))), (few, sort))

    def test_what_is_nearly_a_core(self):
        for thing in (
            list(ORDER), ORDER[::-1], (ORDER,), ORDER[:1], ORDER + ORDER, ORDER[:1] * 2, (list(ORDER[0]), ORDER[1]),
            (ORDER[0], None), (ORDER[0], "z"), (ORDER[0], True), (ORDER[0], ORDER[1][:3]),
            ORDER + (("b", "s", "a", "r"),), (ORDER[0], Unfit()), STUCK, renamed(ORDER, (("b", "c"),)),
            ORDER + ((),), (ORDER[0], ORDER[1] + ("s",)), (("a", "r", "b", "r"), ("b", "s", "a", "s")),
        ):
            self.assertIs(is_core(BOTH, thing), False, thing)
        self.assertIs(is_core(BOTH, ORDER), True)

    def test_bonds_of_its_sort_that_are_not_its_own_are_no_core(self):
        self.assertIs(is_core(ANSWER, (("b", "r", "a", "s"),)), False)
        self.assertIs(is_core(ANSWER, ANSWER), True)
        self.assertIs(is_core(ORDER, (("a", "r", "b", "r"), ("b", "s", "a", "s"))), False)

    def test_nothing_odd_is_a_core(self):
        for pattern in (ORDER, ANSWER, BOTH, STUCK, GREAT):
            for thing in odd_things():
                self.assertIs(is_core(pattern, thing), False, thing)


if __name__ == "__main__":
    unittest.main()
