"""wishes.py [9], and what the overview [1] says in (a) of PATTERNS that cover one another."""

import itertools
import random
import unittest

from barredcrossings.errors import Unfit
from barredcrossings.found import is_in
from barredcrossings.patterns import is_wish, names_of, renamed
from barredcrossings.runs import is_causal, is_one_by_one, is_run
from barredcrossings.sorts import in_some, sort_of
from barredcrossings.wishes import (
    breaking_run, cheapest_part, covering, covers, dearest, is_covering, kept_by, needless, sort_of_wish, thinned,
)
from tests import oracles
from tests.samples import (
    ANSWER, BOTH, CHAIN, CROSSING, GREAT, GREAT_ASKS, GREAT_ROUND, LONG_AND_SHORT, ORDER, STUCK, THREE, free_patterns,
    odd_things, small_patterns,
)

SORTS = ("itself", "marks", "asks", "never")
KINDS = ("any", "causal", "one by one")
SAME = (("a", "r", "b", "r"), ("b", "s", "a", "s"))
EACH_SORT = tuple(sorted([STUCK, ORDER, CROSSING, ANSWER]))


def some_wishes(seed, times, fewest=2, most=4, bonds=6):
    """WISHES of 0 to 6 PATTERNS with few names."""
    dice = random.Random(seed)
    for at in range(times):
        drawn = list(free_patterns(seed * 1000 + at, dice.randint(0, 6), fewest, most, bonds))
        yield tuple(sorted(set(drawn)))


def related_wishes(seed, times):
    """WISHES of which some PATTERNS are parts of others by other names."""
    dice = random.Random(seed)
    for _ in range(times):
        found = set()
        for pattern in free_patterns(dice.random(), dice.randint(1, 2), 3, 4, 6):
            for _ in range(3):
                part = tuple(sorted(dice.sample(pattern, dice.randint(1, len(pattern)))))
                row = dice.sample("abcdefgh", len(names_of(part)))
                found.add(renamed(part, tuple(zip(names_of(part), row))))
        yield tuple(sorted(dice.sample(sorted(found), min(6, len(found)))))


class Examples(unittest.TestCase):
    def test_examples(self):
        both = (CROSSING, ORDER)
        self.assertEqual(sort_of_wish(both), "asks")
        self.assertEqual(sort_of_wish((ANSWER, ORDER)), "never")
        self.assertEqual(sort_of_wish(()), "itself")
        self.assertEqual(dearest(both), (CROSSING,))
        self.assertEqual(cheapest_part(both, "marks"), (ORDER,))
        self.assertEqual(dearest(()), ())
        self.assertEqual(
            [kept_by(both, "causal"), kept_by(both, "one by one"), kept_by((ORDER,), "causal"),
             kept_by((ORDER,), "any"), kept_by((ANSWER,), "one by one"), kept_by((), "any")],
            [False, True, True, False, False, True])
        self.assertIsNone(breaking_run(both, "one by one"))
        self.assertIsNone(breaking_run((ORDER,), "causal"))
        self.assertIs(is_causal(breaking_run(both, "causal")), True)
        self.assertIs(is_in(CROSSING, breaking_run(both, "causal")), True)
        self.assertIs(is_one_by_one(breaking_run((ANSWER,), "one by one")), True)

    def test_examples_of_covering(self):
        both = (CROSSING, ORDER)
        self.assertIs(covers(CROSSING, ORDER), True)
        self.assertIs(covers(ORDER, CROSSING), False)
        self.assertEqual(covering(CROSSING, ORDER), ("a", "b"))
        self.assertIsNone(covering(ORDER, CROSSING))
        self.assertIs(is_covering(CROSSING, ORDER, ("b", "a")), True)
        self.assertIs(is_covering(CROSSING, ORDER, ("a", "a")), False)
        self.assertIs(is_covering(CROSSING, ORDER, ["a", "b"]), False)
        self.assertEqual(needless(both), (ORDER,))
        self.assertEqual(thinned(both), (CROSSING,))
        self.assertEqual(needless((SAME, ORDER)), (SAME, ORDER))
        self.assertEqual(thinned((SAME, ORDER)), (SAME,))
        self.assertEqual(needless((STUCK,)), (STUCK,))
        self.assertEqual(thinned((STUCK,)), ())
        self.assertIs(covers(STUCK, ORDER), False)
        with self.assertRaises(Unfit):
            covers(ORDER, STUCK)


class SortsOfWishes(unittest.TestCase):
    def check(self, wish):
        sorts = [SORTS.index(sort_of(pattern)) for pattern in wish]
        most = max(sorts) if sorts else 0
        self.assertEqual(sort_of_wish(wish), SORTS[most])
        self.assertEqual(
            dearest(wish), tuple(pattern for pattern, sort in zip(wish, sorts) if sort == most))
        for at, word in enumerate(SORTS):
            self.assertEqual(
                cheapest_part(wish, word), tuple(pattern for pattern, sort in zip(wish, sorts) if sort <= at))
        return SORTS[most]

    def test_the_wish_without_patterns(self):
        self.assertEqual(sort_of_wish(()), "itself")
        self.assertEqual(dearest(()), ())
        self.assertEqual([cheapest_part((), sort) for sort in SORTS], [()] * 4)
        self.assertEqual([kept_by((), kind) for kind in KINDS], [True] * 3)
        self.assertEqual([breaking_run((), kind) for kind in KINDS], [None] * 3)
        self.assertEqual((needless(()), thinned(())), ((), ()))

    def test_one_pattern_of_each_sort(self):
        for pattern, sort in ((STUCK, "itself"), (ORDER, "marks"), (CROSSING, "asks"), (ANSWER, "never")):
            self.assertEqual(sort_of_wish((pattern,)), sort)
            self.assertEqual(dearest((pattern,)), (pattern,))
            for at, word in enumerate(SORTS):
                expected = (pattern,) if at >= SORTS.index(sort) else ()
                self.assertEqual(cheapest_part((pattern,), word), expected)

    def test_all_four_sorts_at_once(self):
        self.assertIs(is_wish(EACH_SORT), True)
        for many in range(5):
            for wish in itertools.combinations(EACH_SORT, many):
                self.check(wish)
        self.assertEqual(cheapest_part(EACH_SORT, "itself"), (STUCK,))
        self.assertEqual(cheapest_part(EACH_SORT, "marks"), (ORDER, STUCK))
        self.assertEqual(cheapest_part(EACH_SORT, "asks"), (CROSSING, ORDER, STUCK))
        self.assertEqual(cheapest_part(EACH_SORT, "never"), EACH_SORT)
        self.assertEqual(dearest(EACH_SORT), (ANSWER,))

    def test_several_that_are_dearest(self):
        wish = tuple(sorted([CROSSING, THREE, ORDER, BOTH]))
        self.assertEqual(dearest(wish), tuple(sorted([CROSSING, THREE])))
        self.assertEqual(dearest(tuple(sorted([STUCK, GREAT_ROUND]))), tuple(sorted([STUCK, GREAT_ROUND])))

    def test_wishes_that_come(self):
        found = dict.fromkeys(SORTS, 0)
        dice = random.Random(0)
        pools = {sort: [] for sort in SORTS}
        for pattern in [*small_patterns(2, 3), *free_patterns(1, 300, 3, 5, 6)]:
            pools[sort_of(pattern)].append(pattern)
        for at, sort in enumerate(SORTS):
            for _ in range(20):
                words = [sort] + dice.choices(SORTS[:at + 1], k=dice.randint(0, 5))
                found[self.check(tuple(sorted({dice.choice(pools[word]) for word in words})))] += 1
        for wish in [*some_wishes(1, 40), *some_wishes(2, 40, 3, 8, 16)]:
            found[self.check(wish)] += 1
        self.assertGreater(min(found.values()), 15)


class KeptByAllRuns(unittest.TestCase):
    """The guarantee on the dearest SORT, and RUNS that break a WISH."""

    def check(self, wish):
        dearest_kept = {"any": "itself", "causal": "marks", "one by one": "asks"}
        found = []
        for kind in KINDS:
            keeping = SORTS.index(sort_of_wish(wish)) <= SORTS.index(dearest_kept[kind])
            self.assertIs(kept_by(wish, kind), keeping)
            self.assertIs(kept_by(wish, kind), not any(in_some(pattern, kind) for pattern in wish))
            run = breaking_run(wish, kind)
            found.append(run is None)
            self.assertIs(run is None, keeping)
            if run is not None:
                self.assertIs(is_run(run), True)
                self.assertTrue(oracles.is_run(run) and oracles.is_of_kind(run, kind))
                self.assertTrue(any(
                    oracles.is_placing(pattern, run, tuple(range(len(names_of(pattern)))))
                    for pattern in wish if in_some(pattern, kind)))
        return tuple(found)

    def test_one_pattern_of_each_sort(self):
        self.assertEqual(self.check((STUCK,)), (True, True, True))
        self.assertEqual(self.check((ORDER,)), (False, True, True))
        self.assertEqual(self.check((CROSSING,)), (False, False, True))
        self.assertEqual(self.check((ANSWER,)), (False, False, False))

    def test_all_four_sorts_at_once(self):
        for many in range(5):
            for wish in itertools.combinations(EACH_SORT, many):
                self.check(wish)

    def test_wishes_that_come(self):
        found = set()
        for wish in [*some_wishes(3, 40), *some_wishes(4, 15, 3, 8, 16)]:
            found.add(self.check(wish))
        self.assertEqual(len(found), 4)

    def test_great_wishes(self):
        wish = tuple(sorted([GREAT_ROUND, GREAT_ASKS, LONG_AND_SHORT, STUCK, CROSSING, BOTH]))
        self.assertEqual(self.check(wish), (False, False, True))
        self.check((GREAT,))
        self.check((GREAT_ROUND,))

    def test_runs_that_come_keep_what_all_runs_of_their_kind_keep(self):
        dice = random.Random(5)
        for wish in some_wishes(6, 12, 2, 3, 4):
            for _ in range(3):
                for run in (oracles.some_run(dice, 4, 3), oracles.some_calm_run(dice, 4, 3)):
                    for kind in KINDS:
                        if kept_by(wish, kind) and oracles.is_of_kind(run, kind):
                            self.assertTrue(oracles.is_kept(run, wish))


class Covering(unittest.TestCase):
    def check(self, one, other):
        good = oracles.coverings(one, other)
        self.assertIs(covers(one, other), bool(good), (one, other))
        self.assertEqual(covering(one, other), good[0] if good else None)
        for row in itertools.permutations(names_of(other), len(names_of(one))):
            self.assertIs(is_covering(one, other, row), row in good)
        return bool(good)

    def test_against_all_rows_of_two_names(self):
        patterns = list(small_patterns(2, 3))
        found = {True: 0, False: 0}
        dice = random.Random(7)
        for one, other in itertools.product(patterns, patterns):
            if sort_of(other) != "itself" and dice.random() < 0.4:
                found[self.check(one, other)] += 1
        self.assertGreater(min(found.values()), 200)

    def test_against_all_rows_of_up_to_five_names(self):
        found = {True: 0, False: 0}
        dice = random.Random(8)
        ones = list(free_patterns(9, 300, 2, 5, 3))
        others = [other for other in free_patterns(10, 300, 2, 5, 10) if sort_of(other) != "itself"]
        for _ in range(400):
            found[self.check(dice.choice(ones), dice.choice(others))] += 1
        self.assertGreater(min(found.values()), 40)

    def test_parts_by_other_names(self):
        dice = random.Random(11)
        for other in free_patterns(12, 60, 3, 5, 8):
            if sort_of(other) == "itself":
                continue
            for _ in range(3):
                follow = oracles.following(other)
                part = tuple(sorted(dice.sample(follow, min(len(follow), dice.randint(1, 4)))))
                row = dice.sample("abcdefgh", len(names_of(part)))
                one = renamed(part, tuple(zip(names_of(part), row)))
                self.assertIs(self.check(one, other), True)

    def test_more_names_than_the_other_one(self):
        for one, other in ((CHAIN, ORDER), (THREE, CROSSING), (CHAIN, ANSWER)):
            self.assertIs(covers(one, other), False)
            self.assertIsNone(covering(one, other))
            self.assertIs(is_covering(one, other, ("a", "b", "a")), False)
            self.assertIs(is_covering(one, other, ("a", "b", "c")), False)

    def test_itself_by_its_own_names(self):
        for pattern in [*small_patterns(3, 2), *free_patterns(13, 60, 2, 5, 8)]:
            if sort_of(pattern) != "itself":
                self.assertIs(covers(pattern, pattern), True)
                self.assertIs(is_covering(pattern, pattern, names_of(pattern)), True)

    def test_the_least_of_several(self):
        self.assertEqual(covering((("a", "s", "b", "r"),), CROSSING), ("a", "b"))
        self.assertEqual(covering(ANSWER, (("c", "r", "a", "s"), ("d", "r", "b", "s"))), ("c", "a"))
        self.assertEqual(covering((("c", "r", "a", "s"),), (("c", "r", "a", "s"), ("d", "r", "b", "s"))), ("a", "c"))

    def test_names_in_their_order(self):
        for names in itertools.permutations("bdf"):
            one = tuple(sorted([(names[0], "r", names[1], "s"), (names[1], "r", names[2], "s")]))
            other = (("a", "r", "c", "s"), ("c", "r", "e", "s"))
            row = dict(zip(names, "ace"))
            expected = tuple(row[name] for name in "bdf")
            self.assertEqual(covering(one, other), expected)
            for thing in itertools.permutations("ace"):
                self.assertIs(is_covering(one, other, thing), thing == expected)

    def test_what_is_in_no_run(self):
        for other in (STUCK, (("a", "r", "b", "s"), ("b", "r", "c", "s"), ("c", "r", "a", "s"))):
            for one in (ORDER, STUCK, CHAIN, ANSWER, BOTH):
                for call in (covers, covering):
                    with self.assertRaises(Unfit):
                        call(one, other)
                for thing in (("a", "b"), None, (), ["a", "b"], Unfit(), ("a", "b", "c", "d"), 7):
                    with self.assertRaises(Unfit):
                        is_covering(one, other, thing)
        for one in (STUCK, (("a", "r", "b", "s"), ("b", "r", "c", "s"), ("c", "r", "a", "s"))):
            for other in (ORDER, CHAIN, BOTH, THREE):
                self.assertIs(self.check(one, other), False)

    def test_what_is_nearly_a_covering(self):
        for thing in (
            ["a", "b"], "ab", ("ab",), ("a",), ("b",), ("a", "b", "c"), ("a", "b", "a"), ("a", "a"), ("b", "b"),
            ("a", "c"), ("A", "b"), ("a", None), ("a", True), ("a", 1), (0, 1), ("a", ("b",)), ("a", ["b"]),
            (("a", "b"),), (), ("a", ""), ("a", Unfit()), (("a", "s"), ("b", "s")), [("a", "b")],
        ):
            self.assertIs(is_covering(CROSSING, ORDER, thing), False, thing)
        self.assertIs(is_covering(CROSSING, ORDER, ("a", "b")), True)

    def test_nothing_odd_is_a_covering(self):
        for thing in odd_things():
            for one, other in ((CROSSING, ORDER), (ANSWER, CHAIN), (THREE, THREE)):
                self.assertIs(is_covering(one, other, thing), False, thing)

    def test_one_that_covers_is_in_each_run_in_which_the_other_one_is(self):
        dice = random.Random(14)
        patterns = [p for p in small_patterns(2, 3) if sort_of(p) != "itself"]
        runs = [oracles.some_run(dice, 4, 3) for _ in range(25)]
        there = {pattern: [bool(oracles.placings(pattern, run)) for run in runs] for pattern in patterns}
        for one, other in itertools.product(patterns, patterns):
            if covers(one, other):
                self.assertTrue(all(x or not y for x, y in zip(there[one], there[other])))

    def test_one_that_does_not_cover_is_missing_from_some_run(self):
        patterns = [p for p in [*small_patterns(2, 2), CHAIN, THREE] if sort_of(p) != "itself"]
        for other in patterns:
            # In this RUN no more is ahead than is told, and its further letters are asked of, too.
            run = oracles.run_of_told(other)
            own = set(range(len(names_of(other))))
            for one in patterns:
                placed = [row for row in oracles.placings(one, run) if set(row) <= own]
                self.assertIs(covers(one, other), bool(placed))


class LeftOut(unittest.TestCase):
    def check(self, wish):
        fit = [pattern for pattern in wish if not oracles.is_in_no_run(pattern)]
        covered = {(x, y) for x in wish for y in fit if x != y and oracles.coverings(x, y)}
        self.assertEqual(needless(wish), tuple(
            y for y in wish if y not in fit or any((x, y) in covered for x in wish)))
        expected = tuple(
            y for y in fit if not any(
                (x, y) in covered and ((y, x) not in covered or x < y) for x in fit))
        self.assertEqual(thinned(wish), expected)
        return len(expected), len(needless(wish))

    def test_each_two_of_the_patterns(self):
        for wish in [*some_wishes(15, 60, 2, 4, 3), *related_wishes(16, 60), EACH_SORT]:
            for pair in itertools.combinations(wish, 2):
                self.check(pair)

    def test_whole_wishes(self):
        found = set()
        for wish in [*some_wishes(17, 80, 2, 4, 3), *some_wishes(18, 20, 3, 5, 8), *related_wishes(19, 80), EACH_SORT]:
            found.add(self.check(wish))
        self.assertGreater(len(found), 12)

    def test_patterns_that_cover_one_another(self):
        chains = [
            tuple(sorted([(x, "s", y, "r"), (y, "s", z, "r")])) for x, y, z in itertools.permutations("abc")
        ]
        wish = tuple(sorted(chains))
        self.assertEqual(needless(wish), wish)
        self.assertEqual(thinned(wish), wish[:1])
        wish = tuple(sorted([ORDER, BOTH, SAME]))
        self.assertEqual(needless(wish), wish)
        self.assertEqual(thinned(wish), wish[:1])
        self.assertEqual(wish[0], SAME)

    def test_what_covers_at_last(self):
        weak, middle, strong = (("a", "s", "b", "r"),), CROSSING, ORDER
        wish = tuple(sorted([weak, middle, strong]))
        self.assertEqual(needless(wish), tuple(sorted([middle, strong])))
        self.assertEqual(thinned(wish), (weak,))

    def test_what_is_in_no_run_covers_nothing_and_goes(self):
        wish = tuple(sorted([STUCK, ORDER, GREAT_ROUND]))
        self.assertEqual(needless(wish), tuple(sorted([STUCK, GREAT_ROUND])))
        self.assertEqual(thinned(wish), (ORDER,))
        self.assertEqual(thinned((STUCK,)), ())

    def test_just_the_same_runs_keep_the_thinned_wish(self):
        dice = random.Random(20)
        kept = {True: 0, False: 0}
        for wish in [*some_wishes(21, 30, 2, 3, 4), *related_wishes(22, 30)]:
            thin = thinned(wish)
            self.assertIs(is_wish(thin), True)
            for kind in KINDS:
                self.assertIs(kept_by(thin, kind), kept_by(wish, kind))
            for _ in range(4):
                run = oracles.some_run(dice, 4, 3)
                self.assertIs(oracles.is_kept(run, wish), oracles.is_kept(run, thin))
                kept[oracles.is_kept(run, wish)] += 1
            self.assertEqual(thinned(thin), thin)
            self.assertEqual(needless(thin), ())
        self.assertGreater(min(kept.values()), 20)

    def test_each_that_is_needless_can_be_left_out_by_itself(self):
        dice = random.Random(23)
        for wish in related_wishes(24, 15):
            for pattern in needless(wish):
                rest = tuple(own for own in wish if own != pattern)
                for _ in range(3):
                    run = oracles.some_run(dice, 4, 2)
                    self.assertIs(oracles.is_kept(run, wish), oracles.is_kept(run, rest))
                for kind in KINDS:
                    self.assertIs(kept_by(wish, kind), kept_by(rest, kind))

    def test_what_is_not_needless_cannot_be_left_out(self):
        for wish in some_wishes(25, 40, 2, 3, 3):
            for pattern in wish:
                if pattern not in needless(wish):
                    run = oracles.run_of_told(pattern)
                    own = set(range(len(names_of(pattern))))
                    for other in wish:
                        placed = [row for row in oracles.placings(other, run) if set(row) <= own]
                        self.assertIs(bool(placed), other == pattern)


if __name__ == "__main__":
    unittest.main()
