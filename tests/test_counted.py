"""counted.py [12]."""

import itertools
import math
import random
import unittest

from barredcrossings.counted import (
    all_bonds, are_alike, how_many_patterns, least_renamed, number_of_pattern, pattern_at, patterns_of_sort,
    sorts_counted, unlike_patterns,
)
from barredcrossings.patterns import is_pattern, names_of, renamed
from tests import oracles
from tests.samples import (
    ANSWER, BOTH, CHAIN, CROSSING, GREAT, GREAT_ASKS, ORDER, STUCK, THREE, free_patterns, some_patterns,
)

SORTS = ("itself", "marks", "asks", "never")


def slow_patterns(many, bonds):
    """All PATTERNS of so many BONDS, ascending."""
    return sorted(itertools.combinations(oracles.all_bonds(many), bonds))


def slow_renamed(pattern):
    """All PATTERNS that are alike to it and have the first names."""
    names = oracles.names_of(pattern)
    return [
        tuple(sorted(oracles.with_names(pattern, row)))
        for row in itertools.permutations(oracles.NAMES[:len(names)])
    ]


class Examples(unittest.TestCase):
    def test_examples(self):
        self.assertEqual(all_bonds(2)[:5], (
            ("a", "r", "b", "r"), ("a", "r", "b", "s"), ("a", "s", "b", "r"), ("a", "s", "b", "s"),
            ("b", "r", "a", "r")))
        self.assertEqual(len(all_bonds(4)), 48)
        self.assertEqual(how_many_patterns(2, 2), 28)
        self.assertGreater(how_many_patterns(8, 16), 10 ** 20)
        self.assertEqual(how_many_patterns(2, 9), 0)
        self.assertEqual(pattern_at(2, 2, 0), (("a", "r", "b", "r"), ("a", "r", "b", "s")))
        self.assertEqual(pattern_at(2, 2, 27), (("b", "s", "a", "r"), ("b", "s", "a", "s")))
        self.assertIsNone(pattern_at(2, 2, 28))
        self.assertIsNone(pattern_at(2, 2, -1))

    def test_examples_of_numbers_and_sorts(self):
        self.assertEqual(number_of_pattern(2, ORDER), 18)
        self.assertEqual(number_of_pattern(2, CROSSING), 16)
        self.assertEqual(pattern_at(2, 2, 16), CROSSING)
        self.assertEqual(number_of_pattern(3, CROSSING), 93)
        self.assertIsNone(number_of_pattern(2, (("a", "r", "c", "s"),)))
        self.assertEqual(
            [sorts_counted(2, 1), sorts_counted(2, 2), sorts_counted(2, 3), sorts_counted(3, 2)],
            [(0, 0, 0, 8), (9, 6, 1, 12), (38, 10, 0, 8), (27, 18, 3, 228)])
        self.assertEqual(patterns_of_sort(2, 2, "asks"), [CROSSING])

    def test_examples_of_alike_ones(self):
        self.assertEqual(least_renamed((("h", "r", "c", "s"),)), (("a", "r", "b", "s"),))
        self.assertEqual(least_renamed(ORDER), (("a", "r", "b", "r"), ("b", "s", "a", "s")))
        self.assertIs(are_alike(ORDER, CROSSING), False)
        self.assertIs(are_alike(ORDER, (("f", "r", "h", "r"), ("h", "s", "f", "s"))), True)
        self.assertEqual(unlike_patterns(2, 1), [
            (("a", "r", "b", "r"),), (("a", "r", "b", "s"),), (("a", "s", "b", "r"),), (("a", "s", "b", "s"),)])
        self.assertEqual(
            [len(unlike_patterns(2, 2)), len(unlike_patterns(2, 3)), len(unlike_patterns(3, 2))], [16, 28, 52])


class Numbers(unittest.TestCase):
    def test_all_bonds(self):
        for many in range(2, 9):
            self.assertEqual(all_bonds(many), oracles.all_bonds(many))
            self.assertEqual(len(all_bonds(many)), 4 * many * (many - 1))

    def test_how_many(self):
        for many in range(2, 9):
            for bonds in range(1, 17):
                size = 4 * many * (many - 1)
                expected = math.factorial(size) // (math.factorial(bonds) * math.factorial(size - bonds)) \
                    if bonds <= size else 0
                self.assertEqual(how_many_patterns(many, bonds), expected)
        self.assertEqual([how_many_patterns(2, bonds) for bonds in range(7, 17)], [8, 1] + [0] * 8)

    def test_there_and_back_for_all(self):
        for many, bonds in ((2, 1), (2, 2), (2, 3), (2, 4), (2, 7), (2, 8), (3, 1), (3, 2), (3, 3), (4, 2), (8, 1)):
            expected = slow_patterns(many, bonds)
            self.assertEqual(how_many_patterns(many, bonds), len(expected))
            for number, pattern in enumerate(expected):
                self.assertEqual(pattern_at(many, bonds, number), pattern)
                self.assertEqual(number_of_pattern(many, pattern), number)

    def test_the_first_the_last_and_those_beyond(self):
        for many in range(2, 9):
            for bonds in range(1, 17):
                last = how_many_patterns(many, bonds) - 1
                for number in (-1, -2, last + 1, last + 2, 10 ** 30, -10 ** 30):
                    if not 0 <= number <= last:
                        self.assertIsNone(pattern_at(many, bonds, number))
                if last < 0:
                    self.assertIsNone(pattern_at(many, bonds, 0))
                    continue
                own = oracles.all_bonds(many)
                self.assertEqual(pattern_at(many, bonds, 0), own[:bonds])
                self.assertEqual(pattern_at(many, bonds, last), own[-bonds:])
                self.assertEqual(number_of_pattern(many, own[:bonds]), 0)
                self.assertEqual(number_of_pattern(many, own[-bonds:]), last)

    def test_great_numbers(self):
        dice = random.Random(1)
        for _ in range(200):
            many, bonds = dice.randint(4, 8), dice.randint(5, 16)
            most = how_many_patterns(many, bonds)
            number = dice.randrange(most - 1)
            pattern = pattern_at(many, bonds, number)
            self.assertIs(is_pattern(pattern), True)
            self.assertEqual(len(pattern), bonds)
            self.assertEqual(number_of_pattern(many, pattern), number)
            self.assertLess(pattern, pattern_at(many, bonds, number + 1))

    def test_patterns_that_come(self):
        for pattern in [*some_patterns(2, 100), GREAT, GREAT_ASKS]:
            for many in range(2, 9):
                number = number_of_pattern(many, pattern)
                if max(names_of(pattern)) > "abcdefgh"[many - 1]:
                    self.assertIsNone(number)
                else:
                    self.assertEqual(pattern_at(many, len(pattern), number), pattern)

    def test_names_that_are_none_of_these(self):
        self.assertIsNone(number_of_pattern(2, (("c", "r", "a", "s"),)))
        self.assertIsNone(number_of_pattern(2, (("a", "r", "b", "s"), ("a", "r", "h", "s"))))
        self.assertIsNone(number_of_pattern(7, (("a", "r", "b", "s"), ("h", "r", "a", "s"))))
        self.assertEqual(number_of_pattern(8, (("h", "s", "g", "s"),)), 223)
        self.assertEqual(number_of_pattern(3, (("b", "r", "c", "s"),)), all_bonds(3).index(("b", "r", "c", "s")))

    def test_they_need_not_have_all_names(self):
        self.assertIn(CROSSING, [pattern_at(3, 2, number) for number in range(how_many_patterns(3, 2))])
        self.assertEqual(pattern_at(4, 1, 0), (("a", "r", "b", "r"),))


class Sorts(unittest.TestCase):
    def test_against_all_sets_of_bonds(self):
        for many, bonds in ((2, 1), (2, 2), (2, 3), (2, 4), (2, 5), (2, 8), (3, 1), (3, 2), (3, 3), (4, 1), (5, 1)):
            expected = {sort: [] for sort in SORTS}
            for pattern in slow_patterns(many, bonds):
                expected[oracles.sort_of(pattern)].append(pattern)
            for sort in SORTS:
                self.assertEqual(patterns_of_sort(many, bonds, sort), expected[sort])
            self.assertEqual(sorts_counted(many, bonds), tuple(len(expected[sort]) for sort in SORTS))

    def test_within_the_bound(self):
        for many, bonds in ((4, 2), (8, 1), (2, 16), (2, 9), (3, 3)):
            self.assertLessEqual(how_many_patterns(many, bonds), 2100)
            self.assertEqual(sum(sorts_counted(many, bonds)), how_many_patterns(many, bonds))
        self.assertEqual(sorts_counted(2, 9), (0, 0, 0, 0))
        self.assertEqual(sorts_counted(8, 1), (0, 0, 0, 224))
        self.assertEqual(sorts_counted(2, 8), (1, 0, 0, 0))
        self.assertEqual([patterns_of_sort(2, 16, sort) for sort in SORTS], [[]] * 4)

    def test_two_bonds_of_four_names(self):
        for sort in SORTS:
            self.assertEqual(
                patterns_of_sort(4, 2, sort),
                [pattern for pattern in slow_patterns(4, 2) if oracles.sort_of(pattern) == sort])


class Alike(unittest.TestCase):
    def check(self, pattern):
        expected = min(slow_renamed(pattern))
        self.assertEqual(least_renamed(pattern), expected)
        self.assertEqual(least_renamed(expected), expected)
        self.assertIs(are_alike(pattern, expected), True)
        return expected

    def test_against_all_orders_of_the_names(self):
        for pattern in [*free_patterns(3, 150, 2, 5), ORDER, CROSSING, ANSWER, BOTH, CHAIN, THREE, STUCK]:
            self.check(pattern)
        for pattern in slow_patterns(2, 3):
            self.check(pattern)

    def test_alike_by_some_names(self):
        dice = random.Random(4)
        found = {True: 0, False: 0}
        drawn = [*free_patterns(5, 60, 2, 5, 3), *free_patterns(6, 30, 3, 4, 2)]
        for one in drawn:
            row = dice.sample(oracles.NAMES, len(names_of(one)))
            alike = renamed(one, tuple(zip(names_of(one), row)))
            self.assertIs(are_alike(one, alike), True)
            self.assertIs(are_alike(alike, one), True)
            self.assertEqual(least_renamed(alike), least_renamed(one))
            for other in dice.sample(drawn, 10):
                expected = len(names_of(one)) == len(names_of(other)) and any(
                    oracles.with_names(one, row) == set(other) for row in itertools.permutations(names_of(other)))
                self.assertIs(are_alike(one, other), expected)
                found[expected] += 1
        self.assertGreater(min(found.values()), 15)

    def test_nearly_alike(self):
        for one, other in (
            (ORDER, BOTH), (ORDER, STUCK), (CHAIN, CHAIN[:1]), (CHAIN, (("a", "s", "b", "r"), ("c", "s", "b", "r"))),
            (ANSWER, (("a", "s", "b", "s"),)), (THREE, CHAIN), (ANSWER, (("a", "r", "b", "s"), ("c", "r", "d", "s"))),
        ):
            self.assertIs(are_alike(one, other), False)
            self.assertIs(are_alike(other, one), False)

    def test_eight_names_though_there_is_a_bound(self):
        chain = tuple(sorted((one, "r", other, "s") for one, other in zip("hgfedc", "gfedcb")))
        self.assertEqual(len(names_of(chain)), 7)
        self.assertEqual(
            least_renamed(chain), tuple((one, "r", other, "s") for one, other in zip("abcdef", "bcdefg")))


class Unlike(unittest.TestCase):
    def check(self, many, bonds):
        expected = [pattern for pattern in slow_patterns(many, bonds) if min(slow_renamed(pattern)) == pattern]
        self.assertEqual(unlike_patterns(many, bonds), expected)

    def test_against_all_sets_of_bonds(self):
        for many, bonds in ((2, 1), (2, 2), (2, 3), (2, 5), (2, 8), (2, 9), (3, 1), (3, 2), (4, 1), (5, 1)):
            self.check(many, bonds)

    def test_within_the_bound(self):
        self.check(3, 3)
        self.check(4, 2)

    def test_one_of_each_lot(self):
        found = unlike_patterns(3, 2)
        for one, other in itertools.combinations(found, 2):
            self.assertIs(are_alike(one, other), False)
        for pattern in slow_patterns(3, 2):
            self.assertIn(least_renamed(pattern), found)


if __name__ == "__main__":
    unittest.main()
