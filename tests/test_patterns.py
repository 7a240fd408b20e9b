"""patterns.py [3], [4]."""

import itertools
import random
import unittest

from barredcrossings.errors import BadLine, NoName, Unfit
from barredcrossings.patterns import (
    closure, fewest_bonds, follows, is_bond, is_pattern, is_wish, merged, names_of, renamed, same_runs,
    turned_about,
)
from tests import oracles
from tests.samples import (
    ANSWER, CHAIN, CROSSING, EVERY_BOND, GREAT, ORDER, STUCK, all_patterns, odd_things, some_patterns,
)


class Raises(unittest.TestCase):
    def assert_no_name(self, name, call, *args):
        with self.assertRaises(NoName) as caught:
            call(*args)
        self.assertEqual(caught.exception.name, name)


class WhatThingsAre(unittest.TestCase):
    def test_examples(self):
        self.assertIs(is_bond(("a", "s", "a", "r")), False)
        self.assertIs(is_bond(("a", "s", "b", "r")), True)
        self.assertIs(is_bond(["a", "s", "b", "r"]), False)
        self.assertIs(is_pattern(ORDER), True)
        self.assertIs(is_pattern(()), False)
        self.assertIs(is_pattern(ORDER[::-1]), False)
        self.assertIs(is_wish(()), True)
        self.assertIs(is_wish((ORDER,)), True)
        self.assertIs(is_wish((CROSSING, ORDER)), True)
        self.assertIs(is_wish(ORDER), False)

    def test_just_224_quadruples_are_bonds(self):
        names = [*oracles.NAMES, "i", "A", "", "ab", "s"]
        ends = ["s", "r", "S", "", "sr", "a"]
        found = [quad for quad in itertools.product(names, ends, names, ends) if is_bond(quad)]
        self.assertEqual(sorted(set(found)), list(EVERY_BOND))
        self.assertEqual(len(found), 224)

    def test_what_is_nearly_a_bond(self):
        bond = ("a", "s", "b", "r")
        for at in range(4):
            for odd in (None, True, False, 0, 1, -1, "", "x", ("a",), ["a"], [bond[at]], (bond[at],), Unfit()):
                self.assertIs(is_bond(bond[:at] + (odd,) + bond[at + 1:]), False)
            self.assertIs(is_bond(bond[:at] + bond[at + 1:]), False)
            self.assertIs(is_bond(bond[:at] + bond[at:at + 1] + bond[at:]), False)
        for thing in (bond[::-1], ("s", "a", "r", "b"), (bond,), ("as", "br"), (("a", "s"), ("b", "r")), "asbr"):
            self.assertIs(is_bond(thing), False)

    def test_nothing_odd_is_a_bond_or_a_pattern_or_a_wish(self):
        for thing in odd_things():
            self.assertIs(is_bond(thing), False, thing)
            self.assertIs(is_pattern(thing), False, thing)
            self.assertIs(is_wish(thing), False, thing)

    def test_patterns_ascend_without_duplicates(self):
        one, two, three = EVERY_BOND[:3]
        for members in itertools.product((one, two, three), repeat=3):
            self.assertIs(is_pattern(members), members == (one, two, three))
        self.assertIs(is_pattern((one, one)), False)
        self.assertIs(is_pattern((two, one)), False)
        self.assertIs(is_pattern((one,)), True)

    def test_what_is_nearly_a_pattern(self):
        bond = ("a", "s", "b", "r")
        for thing in (
            bond, [bond], (list(bond),), ((bond,),), (bond, None), (bond, "z"), (None, bond), (bond, 0),
            (bond, []), (bond, list(ORDER[1])), (bond, ("b", "s", "a")), (("a", "s", "a", "r"),), (ORDER,),
            (bond, ("b", "s", "i", "r")), (bond, Unfit()), list(ORDER), ((1, "s", 2, "r"),),
        ):
            self.assertIs(is_pattern(thing), False, thing)

    def test_patterns_and_wishes_beyond_the_bounds(self):
        self.assertIs(is_pattern(GREAT), True)
        self.assertIs(is_pattern(EVERY_BOND[:17]), True)
        self.assertIs(is_pattern(EVERY_BOND), True)
        self.assertIs(is_pattern(EVERY_BOND[::-1]), False)
        self.assertIs(is_pattern(EVERY_BOND + (("i", "r", "a", "r"),)), False)
        wish = tuple((bond,) for bond in EVERY_BOND)
        self.assertIs(is_wish(wish[:7]), True)
        self.assertIs(is_wish(wish), True)
        self.assertIs(is_wish(wish + (EVERY_BOND[-1:],)), False)
        self.assertIs(is_wish((EVERY_BOND,)), True)

    def test_wishes_ascend_without_duplicates(self):
        self.assertIs(is_wish((ORDER, CROSSING)), False)
        self.assertIs(is_wish((ORDER, ORDER)), False)
        self.assertIs(is_wish((ORDER[:1], ORDER)), True)
        self.assertIs(is_wish((ORDER, ORDER[:1])), False)

    def test_a_pattern_of_a_wish_may_be_in_no_run(self):
        self.assertIs(is_pattern(STUCK), True)
        self.assertIs(is_wish((STUCK,)), True)

    def test_what_is_nearly_a_wish(self):
        for thing in (
            [], [ORDER], (list(ORDER),), ((list(ORDER[0]),),), (ORDER[::-1],), ((),), ((), ORDER), (ORDER, ()),
            (CROSSING, ORDER, None), (None, ORDER), (ORDER, 1), ((ORDER,),), (CROSSING, [*ORDER]), (ORDER, "z"),
        ):
            self.assertIs(is_wish(thing), False, thing)


class Names(Raises):
    def test_examples(self):
        self.assertEqual(names_of(ORDER), ("a", "b"))
        self.assertEqual(renamed(CHAIN, (("a", "b"), ("b", "a"))), (("a", "s", "c", "r"), ("b", "s", "a", "r")))
        self.assertEqual(renamed(ANSWER, (("b", "h"),)), (("a", "r", "h", "s"),))
        self.assert_no_name("c", merged, ORDER, "a", "c")
        with self.assertRaises(Unfit):
            renamed(ORDER, (("a", "b"),))

    def test_names_of_is_ascending_and_has_both_sides(self):
        self.assertEqual(names_of((("h", "s", "c", "r"),)), ("c", "h"))
        self.assertEqual(names_of((("b", "s", "h", "r"), ("d", "r", "a", "s"))), ("a", "b", "d", "h"))
        self.assertEqual(names_of(GREAT), tuple("abcdefgh"))
        self.assertEqual(names_of(STUCK), ("a", "b"))

    def test_renamed_against_all_ways_to_name(self):
        for pattern in (ORDER, CHAIN, STUCK, (("a", "s", "b", "r"), ("c", "r", "a", "s"))):
            own = names_of(pattern)
            for many in range(len(own) + 1):
                for first in itertools.permutations(own, many):
                    for second in itertools.product("abcdh", repeat=many):
                        new = {name: name for name in own} | dict(zip(first, second))
                        pairs = tuple(zip(first, second))
                        if len(set(new.values())) < len(own):
                            with self.assertRaises(Unfit):
                                renamed(pattern, pairs)
                        else:
                            found = renamed(pattern, pairs)
                            self.assertEqual(found, tuple(sorted((new[w], e, new[x], p) for w, e, x, p in pattern)))
                            self.assertIs(is_pattern(found), True)

    def test_renamed_with_no_pairs_and_with_the_same_name(self):
        self.assertEqual(renamed(ORDER, ()), ORDER)
        self.assertEqual(renamed(ORDER, (("a", "a"),)), ORDER)
        self.assertEqual(renamed(STUCK, (("a", "h"),)), (("b", "s", "h", "s"), ("h", "s", "b", "s")))

    def test_renamed_of_eight_names_all_at_once(self):
        turned = tuple(zip("abcdefgh", "bcdefgha"))
        found = GREAT
        for _ in range(8):
            found = renamed(found, turned)
        self.assertEqual(found, GREAT)
        self.assertNotEqual(renamed(GREAT, turned), GREAT)

    def test_renamed_tells_the_first_missing_name_ahead_of_unfit(self):
        self.assert_no_name("d", renamed, ORDER, (("a", "b"), ("d", "a"), ("c", "b")))
        self.assert_no_name("c", renamed, ORDER, (("c", "b"), ("d", "a")))
        self.assert_no_name("h", renamed, STUCK, (("h", "h"),))
        self.assert_no_name("c", renamed, ORDER, [["c", "d"]])

    def test_renamed_unfit_also_if_the_new_names_are_the_same(self):
        for pairs in ((("a", "c"), ("b", "c")), (("b", "a"),), (("a", "b"), ("b", "b"))):
            with self.assertRaises(Unfit):
                renamed(ORDER, pairs)


class TurnedAbout(unittest.TestCase):
    def test_examples(self):
        self.assertIs(turned_about(ORDER) == ORDER, True)
        self.assertIs(turned_about(CROSSING) == CROSSING, True)
        self.assertEqual(turned_about(ANSWER), (("b", "r", "a", "s"),))
        self.assertEqual(turned_about((("a", "s", "b", "s"),)), (("b", "r", "a", "r"),))

    def test_all_four_kinds_of_bonds(self):
        self.assertEqual(turned_about((("a", "s", "b", "r"),)), (("b", "s", "a", "r"),))
        self.assertEqual(turned_about((("a", "r", "b", "r"),)), (("b", "s", "a", "s"),))

    def test_turned_twice_it_is_as_before_and_always_ascending(self):
        for pattern in [*all_patterns(2), *some_patterns(1, 100), GREAT]:
            turned = turned_about(pattern)
            self.assertIs(is_pattern(turned), True)
            self.assertEqual(len(turned), len(pattern))
            self.assertEqual(turned_about(turned), pattern)

    def test_it_holds_in_the_run_backwards(self):
        other = {"s": "r", "r": "s"}
        dice = random.Random(2)
        for _ in range(40):
            run = oracles.some_run(dice, 3, 3)
            backwards = tuple(tuple((k, other[end]) for k, end in row[::-1]) for row in run)
            here, there = oracles.ahead_pairs(run), oracles.ahead_pairs(backwards)
            for one, end, far, place in oracles.all_bonds(3):
                ((w, e, x, p),) = turned_about(((one, end, far, place),))
                at = "abc".index
                self.assertEqual(
                    ((at(one), end), (at(far), place)) in here, ((at(w), e), (at(x), p)) in there)


class Merged(Raises):
    def test_examples(self):
        self.assertEqual(merged(CHAIN, "a", "c"), (("a", "s", "b", "r"), ("b", "s", "a", "r")))
        self.assertEqual(merged(CHAIN, "a", "b"), (("a", "s", "c", "r"),))
        self.assertIsNone(merged(CROSSING, "a", "b"))
        self.assertIsNone(merged(ANSWER, "b", "a"))

    def test_of_two_names_only_s_to_r_is_left_out(self):
        for pattern in all_patterns(2):
            self.assertIsNone(merged(pattern, "a", "b"))
            self.assertIsNone(merged(pattern, "b", "a"))

    def test_a_bond_from_one_to_itself_that_is_not_s_to_r(self):
        for end, place in itertools.product("sr", repeat=2):
            pattern = tuple(sorted([("a", end, "b", place), ("a", "s", "c", "r")]))
            expected = (("a", "s", "c", "r"),) if (end, place) == ("s", "r") else None
            self.assertEqual(merged(pattern, "a", "b"), expected)

    def test_bonds_that_become_the_same_stand_once(self):
        pattern = (("a", "s", "c", "r"), ("b", "s", "c", "r"))
        self.assertEqual(merged(pattern, "a", "b"), (("a", "s", "c", "r"),))
        self.assertEqual(merged(pattern, "b", "a"), (("b", "s", "c", "r"),))

    def test_the_result_is_ascending(self):
        pattern = (("a", "s", "d", "s"), ("b", "r", "c", "r"))
        self.assertEqual(merged(pattern, "d", "b"), (("a", "s", "d", "s"), ("d", "r", "c", "r")))
        self.assertEqual(merged(pattern, "c", "a"), (("b", "r", "c", "r"), ("c", "s", "d", "s")))

    def test_the_result_may_be_in_no_run(self):
        pattern = (("a", "s", "c", "s"), ("c", "s", "d", "s"))
        self.assertEqual(merged(pattern, "a", "d"), (("a", "s", "c", "s"), ("c", "s", "a", "s")))
        self.assertEqual(merged(STUCK + (("c", "s", "d", "r"),), "d", "c"), STUCK)

    def test_against_the_words(self):
        for pattern in some_patterns(3, 200):
            for one, other in itertools.permutations(names_of(pattern), 2):
                put = {other: one}
                bonds = {(put.get(w, w), e, put.get(x, x), p) for w, e, x, p in pattern}
                bonds -= {(one, "s", one, "r")}
                expected = tuple(sorted(bonds))
                if not bonds or any(bond[0] == bond[2] for bond in bonds):
                    expected = None
                self.assertEqual(merged(pattern, one, other), expected)

    def test_missing_names_are_told_in_order(self):
        self.assert_no_name("c", merged, ORDER, "c", "d")
        self.assert_no_name("d", merged, ORDER, "d", "c")
        self.assert_no_name("d", merged, ORDER, "d", "a")
        self.assert_no_name("h", merged, CROSSING, "b", "h")


class Following(Raises):
    def test_examples(self):
        every = (("a", "s", "b", "r"), ("a", "s", "b", "s"), ("b", "r", "a", "r"), ("b", "s", "a", "r"))
        self.assertEqual(closure(ORDER), every)
        self.assertIs(closure(CROSSING) == CROSSING, True)
        self.assertEqual(
            closure(ANSWER),
            (("a", "r", "b", "r"), ("a", "r", "b", "s"), ("a", "s", "b", "r"), ("a", "s", "b", "s")))
        self.assertIs(fewest_bonds(closure(ORDER)) == ORDER, True)
        self.assertIs(fewest_bonds(closure(ANSWER)) == ANSWER, True)
        self.assertIs(follows(ORDER, ("b", "s", "a", "r")), True)
        self.assertIs(follows(CROSSING, ("a", "s", "b", "s")), False)
        self.assertIs(same_runs(ORDER, closure(ORDER)), True)
        self.assertIs(same_runs(ORDER, CROSSING), False)
        with self.assertRaises(Unfit):
            closure(STUCK)

    def check_following(self, pattern):
        if oracles.is_in_no_run(pattern):
            for call, args in (
                (closure, ()), (fewest_bonds, ()), (same_runs, (pattern,)), (same_runs, (ORDER,)),
                (follows, (pattern[0],)),
            ):
                with self.assertRaises(Unfit):
                    call(pattern, *args)
            with self.assertRaises(Unfit):
                same_runs(ORDER, pattern)
            return
        expected = oracles.following(pattern)
        self.assertEqual(closure(pattern), expected)
        names = names_of(pattern)
        for bond in oracles.all_bonds(8):
            if bond[0] in names and bond[2] in names:
                self.assertIs(follows(pattern, bond), bond in expected)
        fewest = fewest_bonds(pattern)
        self.assertIs(is_pattern(fewest), True)
        self.assertEqual(oracles.following(fewest), expected)
        for at in range(len(fewest)):
            without = fewest[:at] + fewest[at + 1:]
            self.assertNotEqual(oracles.following(without), expected)
        self.assertIs(same_runs(pattern, fewest), True)
        self.assertIs(same_runs(expected, pattern), True)

    def test_all_patterns_of_two_names(self):
        for pattern in all_patterns(2):
            self.check_following(pattern)

    def test_small_patterns_of_three_names(self):
        bonds = oracles.all_bonds(3)
        for pattern in itertools.combinations(bonds, 2):
            self.check_following(pattern)

    def test_many_patterns_of_more_names(self):
        for pattern in some_patterns(4, 300):
            self.check_following(pattern)

    def test_sixteen_bonds_over_eight_names(self):
        self.assertEqual((len(GREAT), len(names_of(GREAT))), (16, 8))
        self.check_following(GREAT)
        self.assertEqual(len(closure(GREAT)), 28 * 4)
        self.assertEqual(fewest_bonds(GREAT), tuple((one, "r", other, "s") for one, other in zip("bcdefgh", "abcdefg")))
        stuck = tuple(sorted(GREAT[1:] + (("a", "r", "h", "s"),)))
        self.check_following(stuck)

    def test_patterns_somewhat_beyond_the_bounds(self):
        self.assertEqual(closure(closure(GREAT)), closure(GREAT))
        self.assertEqual(fewest_bonds(closure(GREAT)), fewest_bonds(GREAT))
        with self.assertRaises(Unfit):
            closure(EVERY_BOND)

    def test_there_is_just_one_with_fewest_bonds(self):
        everything = list(all_patterns(2))
        by_following = {}
        for pattern in everything:
            if not oracles.is_in_no_run(pattern):
                by_following.setdefault(oracles.following(pattern), []).append(pattern)
        for same in by_following.values():
            least = min(len(pattern) for pattern in same)
            self.assertEqual([pattern for pattern in same if len(pattern) == least], [fewest_bonds(same[0])])
            for pattern in same:
                self.assertEqual(fewest_bonds(pattern), fewest_bonds(same[0]))

    def test_same_runs_is_so_just_if_the_same_bonds_follow(self):
        patterns = [pattern for pattern in all_patterns(2) if not oracles.is_in_no_run(pattern)]
        for one, other in itertools.product(patterns[::3], patterns):
            self.assertIs(same_runs(one, other), oracles.following(one) == oracles.following(other))

    def test_same_runs_needs_the_same_names(self):
        self.assertIs(same_runs(ANSWER, (("a", "r", "c", "s"),)), False)
        self.assertIs(same_runs(ANSWER, (("b", "r", "a", "s"),)), False)
        self.assertIs(same_runs(ANSWER, (("a", "r", "b", "s"), ("a", "r", "c", "s"))), False)

    def test_no_bond_of_one_name_follows(self):
        for pattern in some_patterns(5, 50):
            if not oracles.is_in_no_run(pattern):
                self.assertTrue(all(is_bond(bond) for bond in closure(pattern)))

    def test_chains_by_way_of_s_and_r_of_a_third_name(self):
        pattern = (("a", "r", "b", "s"), ("b", "r", "c", "s"))
        self.assertIs(follows(pattern, ("a", "s", "c", "r")), True)
        self.assertIs(follows(pattern, ("a", "r", "c", "s")), True)
        self.assertIs(follows((("a", "r", "b", "r"), ("b", "s", "c", "s")), ("a", "r", "c", "s")), False)
        self.assertIs(follows((("a", "r", "b", "s"), ("b", "s", "c", "s")), ("a", "s", "c", "r")), True)

    def test_missing_names_are_told_in_order_and_ahead_of_unfit(self):
        self.assert_no_name("c", follows, STUCK, ("c", "s", "d", "r"))
        self.assert_no_name("d", follows, STUCK, ("d", "s", "c", "r"))
        self.assert_no_name("d", follows, STUCK, ("d", "s", "a", "r"))
        self.assert_no_name("h", follows, STUCK, ["b", "s", "h", "r"])
        self.assert_no_name("h", follows, ORDER, ("b", "s", "h", "r"))

    def test_rounds_by_way_of_s_and_r(self):
        for pattern in (
            STUCK, (("a", "r", "b", "s"), ("b", "r", "a", "s")), (("a", "r", "b", "s"), ("b", "s", "a", "s")),
            (("a", "r", "b", "r"), ("b", "r", "a", "s")),
            (("a", "s", "b", "r"), ("b", "r", "c", "s"), ("c", "r", "a", "s")),
            (("a", "r", "b", "s"), ("b", "r", "c", "s"), ("c", "s", "d", "s"), ("d", "s", "a", "r")),
        ):
            with self.assertRaises(Unfit):
                closure(pattern)
        for pattern in (ORDER, CROSSING, (("a", "s", "b", "r"), ("b", "s", "c", "r"), ("c", "s", "a", "r"))):
            self.assertTrue(closure(pattern))


class FollowingInRuns(unittest.TestCase):
    """What follows is what holds at each placing in each RUN."""

    def test_what_follows_holds_wherever_the_pattern_does(self):
        dice = random.Random(6)
        for _ in range(150):
            run = oracles.some_run(dice, 4, dice.randint(2, 4))
            letters = dice.sample(range(4), 3)
            pairs = oracles.ahead_pairs(run)
            holds = [
                bond for bond in oracles.all_bonds(3)
                if ((letters["abc".index(bond[0])], bond[1]), (letters["abc".index(bond[2])], bond[3])) in pairs
            ]
            if not holds:
                continue
            pattern = tuple(sorted(dice.sample(holds, dice.randint(1, len(holds)))))
            self.assertLessEqual(set(closure(pattern)), set(holds))

    def test_what_does_not_follow_fails_in_some_run(self):
        for pattern in [ORDER, CROSSING, ANSWER, CHAIN, GREAT, *some_patterns(7, 60)]:
            if oracles.is_in_no_run(pattern):
                self.assertFalse(oracles.is_run(oracles.run_of_told(pattern)))
                continue
            run = oracles.run_of_told(pattern)
            self.assertTrue(oracles.is_run(run))
            pairs = oracles.ahead_pairs(run)
            names = names_of(pattern)
            holds = tuple(sorted(
                (one, end, other, place)
                for (x, one), (y, other) in itertools.permutations(enumerate(names), 2)
                for end in "sr" for place in "sr" if ((x, end), (y, place)) in pairs
            ))
            self.assertEqual(closure(pattern), holds)


class ErrorsAreOfTheirClass(unittest.TestCase):
    def test_lookup_and_value(self):
        with self.assertRaises(LookupError):
            merged(ORDER, "x", "a")
        with self.assertRaises(ValueError):
            closure(STUCK)
        self.assertFalse(issubclass(Unfit, BadLine))


if __name__ == "__main__":
    unittest.main()
