"""rings.py [6]."""

import itertools
import random
import unittest

from barredcrossings.errors import Unfit
from barredcrossings.patterns import is_pattern
from barredcrossings.rings import (
    how_many_rings, is_least_ring, is_ring, least_ring, least_turns, on_rings, ring_names, rings, turning_names, turns,
)
from tests import oracles
from tests.samples import (
    ANSWER, BOTH, CHAIN, CROSSING, EVERY_BOND, GREAT, GREAT_ASKS, GREAT_ROUND, LONG_AND_SHORT, ORDER, STUCK, THREE,
    all_patterns, free_patterns, odd_things, ring_pattern, small_patterns, some_patterns,
)

FIVE = tuple(sorted(  # 16 BONDS over 5 names
    [(one, "s", other, "r") for one, other in zip("abcde", "bcdea")]
    + [(one, "r", other, "r") for one, other in zip("abcde", "cdeab")]
    + [(one, "s", other, "s") for one, other in zip("abcde", "edabc")] + [("a", "s", "b", "s")]
))


class Examples(unittest.TestCase):
    def test_examples(self):
        self.assertEqual(
            [least_turns(pattern) for pattern in (STUCK, ORDER, CROSSING, THREE, BOTH, ANSWER)], [0, 1, 2, 3, 1, None])
        self.assertEqual(least_ring(ORDER), (("a", "s", "b", "s"), ("b", "r", "a", "r")))
        self.assertIsNone(least_ring(ANSWER))
        self.assertEqual(ring_names(THREE), ("a", "b", "c"))
        self.assertEqual(turns(THREE), 3)
        self.assertEqual(turning_names(ORDER), ("a",))
        self.assertEqual(turning_names(CROSSING), ("a", "b"))
        self.assertEqual(
            rings(BOTH), [(BOTH[0], BOTH[2]), (BOTH[0], BOTH[3]), (BOTH[1], BOTH[2]), (BOTH[1], BOTH[3])])
        self.assertEqual([how_many_rings(BOTH, many) for many in range(4)], [0, 3, 1, 0])
        self.assertEqual(rings(ANSWER), [])
        self.assertIs(is_ring(BOTH, ORDER), True)
        self.assertIs(is_ring(BOTH, ORDER[::-1]), False)
        self.assertIs(is_ring(ORDER, CROSSING), False)
        self.assertIs(is_ring(BOTH, BOTH[:2]), False)
        self.assertIs(is_ring(BOTH, ()), False)
        self.assertIs(is_ring(BOTH, [BOTH[0], BOTH[2]]), False)
        self.assertIs(is_least_ring(BOTH, ORDER), True)
        self.assertIs(is_least_ring(BOTH, CROSSING), False)
        self.assertIs(is_least_ring(BOTH, least_ring(BOTH)), True)
        self.assertEqual(on_rings((("a", "s", "b", "s"), ("b", "r", "a", "r"), ("b", "r", "c", "s"))), ORDER)
        self.assertEqual(on_rings(ANSWER), ())


class AllRings(unittest.TestCase):
    """All that is told of RINGS, against slow searches."""

    def check(self, pattern, found):
        self.assertEqual(on_rings(pattern), tuple(sorted({bond for ring in found for bond in ring})))
        for ring in found:
            self.assertIs(is_ring(pattern, ring), True)
            self.assertEqual(ring_names(ring), tuple(bond[0] for bond in ring))
            self.assertEqual(turning_names(ring), oracles.turning_names(ring))
            self.assertEqual(turns(ring), len(oracles.turning_names(ring)))
        if not found:
            self.assertIsNone(least_turns(pattern))
            self.assertIsNone(least_ring(pattern))
            return
        least = oracles.least_of(found)
        self.assertEqual(least_turns(pattern), len(oracles.turning_names(least[0])))
        self.assertIn(least_ring(pattern), least)
        for ring in found:
            self.assertIs(is_least_ring(pattern, ring), ring in least)

    def check_all(self, pattern, found):
        self.check(pattern, found)
        self.assertEqual(rings(pattern), found)
        for many in (-1, 0, 1, 2, 3, 4, 5, 6, 10 ** 30, -10 ** 30):
            self.assertEqual(
                how_many_rings(pattern, many), len([ring for ring in found if turns(ring) == many]))

    def test_all_patterns_of_two_names(self):
        for pattern in all_patterns(2):
            self.check_all(pattern, oracles.rings(pattern))

    def test_all_small_patterns_of_three_names(self):
        for pattern in small_patterns(3, 3):
            self.check_all(pattern, oracles.rings(pattern))

    def test_patterns_of_up_to_five_names(self):
        seen = set()
        for pattern in [*free_patterns(1, 150, 3, 5, bonds=9), THREE, BOTH, STUCK, CHAIN]:
            found = oracles.rings(pattern)
            self.check_all(pattern, found)
            seen.add(least_turns(pattern))
        self.assertLessEqual({None, 0, 1, 2}, seen)

    def test_sixteen_bonds_between_five_names(self):
        self.assertEqual((len(FIVE), is_pattern(FIVE)), (16, True))
        found = oracles.rings(FIVE)
        self.assertEqual(found, oracles.rings_by_names(FIVE))
        self.check_all(FIVE, found)
        for pattern in free_patterns(2, 60, 4, 5):
            self.check_all(pattern, oracles.rings_by_names(pattern))

    def test_every_bond_between_three_names(self):
        pattern = oracles.all_bonds(3)
        found = oracles.rings_by_names(pattern)
        self.assertEqual(len(found), 3 * 16 + 2 * 64)
        self.check_all(pattern, found)

    def test_patterns_of_six_names_and_more(self):
        seen = set()
        for pattern in [*free_patterns(3, 25, 6, 8), *some_patterns(4, 15), LONG_AND_SHORT]:
            self.check(pattern, oracles.rings_by_names(pattern))
            seen.add(least_turns(pattern))
        self.assertLessEqual({None, 0, 1, 2}, seen)

    def test_sixteen_bonds_over_eight_names(self):
        for pattern, least in ((GREAT, None), (GREAT_ROUND, 0), (GREAT_ASKS, 2)):
            self.assertEqual((len(pattern), least_turns(pattern)), (16, least))
            self.check(pattern, oracles.rings_by_names(pattern))
        self.assertEqual(on_rings(GREAT), ())
        self.assertEqual(on_rings(GREAT_ROUND), GREAT_ROUND)
        self.assertEqual(len(least_ring(GREAT_ROUND)), 8)

    def test_somewhat_beyond_the_bounds(self):
        self.assertEqual(least_turns(EVERY_BOND), 0)
        self.assertEqual(len(least_ring(EVERY_BOND)), 2)
        self.assertIs(is_least_ring(EVERY_BOND, STUCK), True)
        self.assertEqual(on_rings(EVERY_BOND), EVERY_BOND)


class OneRing(unittest.TestCase):
    """PATTERNS with one RING alone, through as many names as there are."""

    def test_every_number_of_turns(self):
        dice = random.Random(5)
        for many in range(2, 9):
            for turning in range(many + 1):
                names = dice.sample(oracles.NAMES, many)
                told = dice.sample(names, turning)
                pattern = ring_pattern(names, told, dice)
                ring = least_ring(pattern)
                self.assertEqual(least_turns(pattern), turning)
                self.assertEqual(tuple(sorted(ring)), pattern)
                self.assertEqual(ring[0], pattern[0])
                at = names.index(ring[0][0])
                self.assertEqual(ring_names(ring), tuple(names[at:] + names[:at]))
                self.assertEqual(turning_names(ring), tuple(sorted(told)))
                self.assertEqual(turns(ring), turning)
                self.assertEqual(on_rings(pattern), pattern)
                self.assertIs(is_least_ring(pattern, ring), True)
                if many <= 5:
                    self.assertEqual(rings(pattern), [ring])
                    self.assertEqual(
                        [how_many_rings(pattern, k) for k in range(6)], [int(k == turning) for k in range(6)])

    def test_it_turns_only_from_r_to_s(self):
        for place, end in itertools.product("sr", repeat=2):
            ring = (("a", "s", "b", place), ("b", end, "a", "s"))
            expected = ("b",) if (place, end) == ("r", "s") else ()
            self.assertEqual(turning_names(ring), expected)
            self.assertEqual(turns(ring), len(expected))
            self.assertEqual(least_turns(ring), len(expected))

    def test_it_turns_where_it_closes(self):
        for place, end in itertools.product("sr", repeat=2):
            ring = (("a", end, "b", "s"), ("b", "s", "a", place))
            expected = ("a",) if (place, end) == ("r", "s") else ()
            self.assertEqual(turning_names(ring), expected)
            self.assertEqual(least_turns(ring), len(expected))


class FewestTurnsThenFewestBonds(unittest.TestCase):
    def test_fewer_turns_go_ahead_of_fewer_bonds(self):
        ring = least_ring(LONG_AND_SHORT)
        self.assertEqual((turns(ring), ring_names(ring)), (2, ("d", "e", "f", "g")))
        self.assertIs(is_least_ring(LONG_AND_SHORT, ring), True)
        self.assertIs(is_least_ring(LONG_AND_SHORT, THREE), False)
        self.assertIs(is_ring(LONG_AND_SHORT, THREE), True)

    def test_of_equal_turns_the_shorter(self):
        long = (("a", "s", "b", "s"), ("b", "s", "c", "s"), ("c", "r", "a", "r"))
        pattern = tuple(sorted(long + (("a", "s", "c", "s"),)))
        self.assertEqual(least_ring(pattern), (("a", "s", "c", "s"), ("c", "r", "a", "r")))
        self.assertIs(is_least_ring(pattern, long), False)
        self.assertIs(is_ring(pattern, long), True)

    def test_any_of_several_is_a_least_ring(self):
        pattern = (("a", "s", "b", "r"), ("a", "s", "b", "s"), ("b", "r", "a", "s"))
        for ring in ((pattern[0], pattern[2]), (pattern[1], pattern[2])):
            self.assertIs(is_least_ring(pattern, ring), True)
        self.assertEqual(least_turns(pattern), 0)

    def test_a_way_through_a_name_twice_is_no_ring(self):
        # From a to c and back by way of b: no end would be turned at, but b is met twice.
        pattern = tuple(sorted([
            ("a", "s", "b", "s"), ("b", "s", "c", "s"), ("c", "r", "b", "r"), ("b", "r", "a", "r"),
        ]))
        found = oracles.rings(pattern)
        self.assertEqual(rings(pattern), found)
        self.assertEqual([len(ring) for ring in found], [2, 2])
        self.assertEqual((least_turns(pattern), len(least_ring(pattern))), (1, 2))


class WhatRingsAre(unittest.TestCase):
    def test_every_row_of_bonds(self):
        joined = (("a", "r", "b", "s"), ("b", "s", "a", "r"), ("b", "s", "c", "r"), ("c", "r", "b", "r"))
        for pattern in (BOTH, THREE, LONG_AND_SHORT[:5], joined):
            for many in range(5):
                for row in itertools.product(pattern, repeat=many):
                    self.assertIs(is_ring(pattern, row), oracles.is_ring(row))

    def test_a_ring_of_another_pattern(self):
        self.assertIs(is_ring(ORDER, STUCK), False)
        self.assertIs(is_ring(CROSSING, THREE), False)
        self.assertIs(is_ring(THREE, THREE), True)
        self.assertIs(is_least_ring(ORDER, CROSSING), False)

    def test_the_least_stands_first(self):
        for at in range(3):
            row = THREE[at:] + THREE[:at]
            self.assertIs(is_ring(THREE, row), at == 0)
            self.assertIs(is_least_ring(THREE, row), at == 0)
        backwards = (("a", "s", "c", "r"), ("b", "s", "a", "r"), ("c", "s", "b", "r"))
        self.assertIs(is_ring(backwards, backwards), False)
        self.assertIs(is_ring(backwards, (backwards[0], backwards[2], backwards[1])), True)

    def test_what_is_nearly_a_ring(self):
        for call in (is_ring, is_least_ring):
            for thing in (
                list(ORDER), (ORDER,), ORDER[:1], ORDER[1:], ORDER + ORDER, ORDER + ORDER[:1], ORDER[:1] * 2,
                (ORDER[0], list(ORDER[1])), (list(ORDER[0]), ORDER[1]), (ORDER[0], None), (ORDER[0], True),
                (ORDER[0], "b"), (ORDER[0], ORDER[1][:3]), (ORDER[0], ORDER[1] + ("r",)), (ORDER[0], Unfit()),
                (ORDER[0], ("b", "s", "a", "r")), (None,) + ORDER, ORDER + (None,), ("a", "b"), (0, 1),
                tuple(tuple(list(part) for part in bond) for bond in ORDER), (ORDER[0], (ORDER[1],)), ORDER + ((),),
            ):
                self.assertIs(call(ORDER, thing), False, thing)
            self.assertIs(call(ORDER, ORDER), True)

    def test_nothing_odd_is_a_ring(self):
        for pattern in (ORDER, ANSWER, BOTH, STUCK, GREAT):
            for thing in odd_things():
                self.assertIs(is_ring(pattern, thing), False, thing)
                self.assertIs(is_least_ring(pattern, thing), False, thing)

    def test_rings_of_eight_bonds(self):
        first = GREAT_ROUND[::2]
        self.assertIs(is_ring(GREAT_ROUND, first), True)
        self.assertIs(is_ring(GREAT_ROUND, first[:7]), False)
        self.assertIs(is_ring(GREAT_ROUND, first * 2), False)
        self.assertIs(is_ring(GREAT_ROUND, GREAT_ROUND), False)
        self.assertIs(is_least_ring(GREAT_ROUND, GREAT_ROUND[1::2]), True)
        self.assertIs(is_least_ring(GREAT_ROUND, GREAT_ROUND[:1] + GREAT_ROUND[3::2]), True)
        self.assertIs(is_least_ring(GREAT_ROUND, GREAT_ROUND[3::2] + GREAT_ROUND[:1]), False)


if __name__ == "__main__":
    unittest.main()
