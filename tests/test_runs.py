"""runs.py [3], [5]."""

import itertools
import random
import unittest

from barredcrossings.errors import NoLetter, Unfit
from barredcrossings.runs import (
    ahead, crown, ends_between, ends_in, house_of, is_causal, is_crown, is_letter_row, is_one_by_one, is_run,
    is_time_row, kind_of, letter_row, letters_in, overtaken, time_row,
)
from tests import oracles
from tests.samples import CALM, RUSH, SWAP, great_run, odd_things, ring_run

GREAT_RUN = great_run()
LABELS = [0, 3, 9, 10, 2, 10 ** 30]
EMPTY_RUNS = ((), ((),), ((),) * 16)


def some_runs(seed, times, most=4):
    """RUNS of up to so many letters, with labels that are not just 0, 1 and so on."""
    dice = random.Random(seed)
    for _ in range(times):
        many = dice.randint(0, most)
        yield oracles.some_run(dice, many, dice.randint(2, 5), dice.sample(LABELS, many))


def rows_of(ends, houses):
    """All ways to lay these ENDS, in this order, out in so many rows."""
    for places in itertools.product(range(houses), repeat=len(ends)):
        yield tuple(
            tuple(end for end, place in zip(ends, places) if place == house) for house in range(houses))


class WhatRunsAre(unittest.TestCase):
    def test_examples(self):
        self.assertIs(is_run(SWAP), True)
        self.assertIs(is_run((((0, "s"),), ((0, "r"),))), True)
        self.assertIs(is_run((((0, "s"), (0, "r")),)), False)
        self.assertIs(is_run((((0, "r"), (1, "s")), ((1, "r"), (0, "s")))), False)

    def test_no_rows_and_rows_without_ends(self):
        for run in EMPTY_RUNS:
            self.assertIs(is_run(run), True)
        self.assertIs(is_run(((), ((0, "s"),), (), ((0, "r"),))), True)
        self.assertIs(is_run([]), False)
        self.assertIs(is_run(([],)), False)
        self.assertIs(is_run(((), [])), False)

    def test_all_layouts_of_two_letters(self):
        ends = [(4, "s"), (4, "r"), (11, "s"), (11, "r")]
        found = 0
        for order in itertools.permutations(ends):
            for rows in rows_of(order, 3):
                self.assertIs(is_run(rows), oracles.is_run(rows), rows)
                found += is_run(rows)
        self.assertGreater(found, 100)

    def test_ends_that_are_missing_or_stand_twice(self):
        ends = [(0, "s"), (0, "r"), (1, "s"), (1, "r")]
        for many in range(5):
            for chosen in itertools.product(ends, repeat=many):
                for rows in rows_of(chosen, 2):
                    self.assertIs(is_run(rows), oracles.is_run(rows), rows)

    def test_a_round_by_way_of_three_houses(self):
        rows = (((0, "r"), (1, "s")), ((1, "r"), (2, "s")), ((2, "r"), (0, "s")))
        self.assertIs(is_run(rows), False)
        self.assertIs(is_run(tuple(row[::-1] for row in rows)), True)

    def test_what_is_nearly_an_end(self):
        for letter, end in (
            (True, "s"), (False, "s"), (None, "s"), ("0", "s"), (-1, "s"), ((0,), "s"), ([0], "s"), (Unfit(), "s"),
            (0, "S"), (0, ""), (0, "sr"), (0, None), (0, True), (0, 0), (0, ("s",)), (0, ["s"]), ("s", 0),
        ):
            self.assertIs(is_run((((letter, end),), ((letter, "r"),))), False)
        for end in ([0, "s"], (0,), (0, "s", 0), (0, "s", "r"), "0s", 0, None, ("s", 0), ((0, "s"),), (), []):
            self.assertIs(is_run(((end,), ((0, "r"),))), False)
            self.assertIs(is_run(((end,),)), False)

    def test_true_is_no_letter_even_beside_1(self):
        self.assertIs(is_run((((1, "s"),), ((True, "r"),))), False)
        self.assertIs(is_run((((False, "s"),), ((0, "r"),))), False)

    def test_what_is_nearly_a_run(self):
        for thing in (
            list(SWAP), oracles.as_lists(SWAP), (list(RUSH[0]), RUSH[1]), (oracles.as_lists(RUSH[0]), RUSH[1]),
            RUSH[0], RUSH[:1], RUSH + RUSH, RUSH + (None,), RUSH + ("",), RUSH + (0,), RUSH + ([],), (RUSH,),
            (((0, "s"),), ((1, "r"),)), (((0, "s"),), ((0, "r"),), ((0, "r"),)), (((0, "s"),),), (((0, "r"),),),
        ):
            self.assertIs(is_run(thing), False, thing)

    def test_nothing_odd_is_a_run(self):
        for thing in odd_things():
            self.assertIs(is_run(thing), False, thing)

    def test_the_greatest_and_beyond_the_bounds(self):
        self.assertEqual((len(GREAT_RUN), len(letters_in(GREAT_RUN))), (16, 24))
        self.assertIs(is_run(GREAT_RUN), True)
        self.assertIs(is_run(GREAT_RUN + ((),)), True)
        self.assertIs(is_run(((),) * 400), True)
        self.assertIs(is_run((((10 ** 40, "s"),), ((10 ** 40, "r"),))), True)
        many = 3000
        sent = tuple((letter, "s") for letter in range(many))
        taken = tuple((letter, "r") for letter in range(many))
        self.assertIs(is_run((sent, taken)), True)
        self.assertIs(is_run((sent, taken[::-1])), True)
        self.assertIs(is_run((sent, taken[1:])), False)
        back = ((many - 1, "r"), *((letter, "s") for letter in range(many - 1)))
        forth = (*((letter, "r") for letter in range(many - 1)), (many - 1, "s"))
        self.assertIs(is_run((back, forth)), False)
        self.assertIs(is_run(ring_run(300)), True)
        self.assertIs(is_run(tuple(row[::-1] for row in ring_run(300))), False)


class Raises(unittest.TestCase):
    def assert_no_letter(self, letter, call, *args):
        with self.assertRaises(NoLetter) as caught:
            call(*args)
        self.assertEqual(caught.exception.letter, letter)


class WhatStandsWhere(Raises):
    def test_examples(self):
        self.assertEqual(letters_in(SWAP), (0, 1, 2, 3))
        self.assertEqual(ends_in(RUSH), ((0, "r"), (0, "s"), (1, "r"), (1, "s")))
        self.assertEqual(house_of(SWAP, 3, "r"), 1)
        self.assertEqual(house_of(SWAP, 3, "s"), 2)

    def test_letters_and_ends_of_runs_without_letters(self):
        for run in EMPTY_RUNS:
            self.assertEqual(letters_in(run), ())
            self.assertEqual(ends_in(run), ())

    def test_sets_ascend_as_numbers(self):
        run = (((10, "s"), (9, "r")), ((10, "r"), (9, "s")))
        self.assertEqual(letters_in(run), (9, 10))
        self.assertEqual(ends_in(run), ((9, "r"), (9, "s"), (10, "r"), (10, "s")))

    def test_house_of_counts_empty_rows(self):
        run = ((), ((7, "s"),), (), (), ((7, "r"),))
        self.assertEqual((house_of(run, 7, "s"), house_of(run, 7, "r")), (1, 4))

    def test_against_the_words(self):
        for run in some_runs(1, 60):
            self.assertEqual(letters_in(run), tuple(oracles.letters(run)))
            self.assertEqual(ends_in(run), tuple(sorted(end for row in run for end in row)))
            for house, row in enumerate(run):
                for letter, end in row:
                    self.assertEqual(house_of(run, letter, end), house)

    def test_no_letter(self):
        self.assert_no_letter(4, house_of, SWAP, 4, "s")
        self.assert_no_letter(10 ** 30, house_of, SWAP, 10 ** 30, "r")
        for run in EMPTY_RUNS:
            self.assert_no_letter(0, house_of, run, 0, "s")


class WhatIsAhead(Raises):
    def test_examples(self):
        self.assertIs(ahead(SWAP, (0, "s"), (1, "r")), True)
        self.assertIs(ahead(SWAP, (0, "s"), (1, "s")), False)
        self.assertIs(ahead(SWAP, (1, "s"), (0, "r")), True)
        self.assertIs(ahead(SWAP, (2, "s"), (2, "s")), False)
        self.assertEqual(ends_between(RUSH, 0), ((1, "r"), (1, "s")))
        self.assertEqual(ends_between(SWAP, 0), ())
        self.assert_no_letter(4, ahead, SWAP, (4, "s"), (0, "r"))

    def test_against_the_words(self):
        for run in [*some_runs(2, 60), SWAP, RUSH, CALM]:
            pairs = oracles.ahead_pairs(run)
            ends = ends_in(run)
            for one, other in itertools.product(ends, repeat=2):
                self.assertIs(ahead(run, one, other), (one, other) in pairs)
            for letter in letters_in(run):
                self.assertEqual(ends_between(run, letter), tuple(
                    end for end in ends if ((letter, "s"), end) in pairs and (end, (letter, "r")) in pairs))

    def test_the_greatest(self):
        pairs = oracles.ahead_pairs(GREAT_RUN)
        for one, other in itertools.product(ends_in(GREAT_RUN)[::5], ends_in(GREAT_RUN)):
            self.assertIs(ahead(GREAT_RUN, one, other), (one, other) in pairs)

    def test_missing_letters_are_told_in_order(self):
        self.assert_no_letter(9, ahead, SWAP, (9, "s"), (4, "r"))
        self.assert_no_letter(4, ahead, SWAP, (4, "s"), (9, "r"))
        self.assert_no_letter(4, ahead, SWAP, (0, "s"), (4, "r"))
        self.assert_no_letter(5, ahead, SWAP, (5, "s"), (5, "s"))
        self.assert_no_letter(5, ahead, SWAP, [5, "s"], [0, "s"])
        self.assert_no_letter(2, ends_between, RUSH, 2)
        for run in EMPTY_RUNS:
            self.assert_no_letter(1, ahead, run, (1, "s"), (0, "r"))
            self.assert_no_letter(0, ends_between, run, 0)


class TimeRows(unittest.TestCase):
    def test_examples(self):
        self.assertEqual(time_row(RUSH), ((0, "s"), (1, "s"), (1, "r"), (0, "r")))
        self.assertIs(
            time_row(CALM) == ((0, "s"), (0, "r"), (2, "s"), (2, "r"), (1, "s"), (1, "r")), True)
        self.assertIs(is_time_row(RUSH, ((0, "s"), (1, "s"), (1, "r"), (0, "r"))), True)
        self.assertIs(is_time_row(RUSH, ((1, "s"), (0, "s"), (1, "r"), (0, "r"))), False)

    def test_against_all_tuples_of_the_ends(self):
        for run in [*some_runs(3, 25, most=3), RUSH, CALM, *EMPTY_RUNS]:
            rows = oracles.time_rows(run)
            self.assertEqual(time_row(run), rows[0])
            good = set(rows)
            for row in itertools.permutations(ends_in(run)):
                self.assertIs(is_time_row(run, row), row in good)

    def test_the_least_goes_by_letters_then_r_ahead_of_s(self):
        run = (((10, "s"), (9, "r")), ((10, "r"),), ((9, "s"),))
        self.assertEqual(time_row(run), ((9, "s"), (10, "s"), (9, "r"), (10, "r")))
        run = (((2, "s"),), ((2, "r"), (1, "s")), ((1, "r"),), ((0, "s"),), ((0, "r"),))
        self.assertEqual(time_row(run), ((0, "s"), (0, "r"), (2, "s"), (2, "r"), (1, "s"), (1, "r")))

    def test_runs_without_letters(self):
        for run in EMPTY_RUNS:
            self.assertEqual(time_row(run), ())
            self.assertIs(is_time_row(run, ()), True)
            self.assertIs(is_time_row(run, []), False)
            self.assertIs(is_time_row(run, ((),)), False)
            self.assertIs(is_time_row(run, ((0, "s"),)), False)

    def test_what_is_nearly_a_time_row(self):
        row = time_row(RUSH)
        self.assertIs(is_time_row(RUSH, list(row)), False)
        self.assertIs(is_time_row(RUSH, (row,)), False)
        self.assertIs(is_time_row(RUSH, row + row), False)
        self.assertIs(is_time_row(RUSH, row + ((2, "s"), (2, "r"))), False)
        self.assertIs(is_time_row(RUSH, ((0, "s"), (True, "s"), (1, "r"), (0, "r"))), False)
        self.assertIs(is_time_row(RUSH, ((False, "s"), (1, "s"), (1, "r"), (0, "r"))), False)
        for at in range(4):
            self.assertIs(is_time_row(RUSH, row[:at] + row[at + 1:]), False)
            self.assertIs(is_time_row(RUSH, row[:at] + row[at:at + 1] + row[at:]), False)
            self.assertIs(is_time_row(RUSH, row[:at] + (list(row[at]),) + row[at + 1:]), False)
            for odd in odd_things() + [(2, "s"), (0, "x"), row[at - 1], row[at][:1], row[at] + (0,), (row[at],)]:
                self.assertIs(is_time_row(RUSH, row[:at] + (odd,) + row[at + 1:]), False)

    def test_nothing_odd_is_a_time_row(self):
        for thing in odd_things():
            self.assertIs(is_time_row(RUSH, thing), False, thing)
            self.assertIs(is_time_row(SWAP, thing), False, thing)

    def test_the_greatest(self):
        row = time_row(GREAT_RUN)
        self.assertEqual(len(row), 48)
        self.assertIs(is_time_row(GREAT_RUN, row), True)
        self.assertIs(is_time_row(GREAT_RUN, row[::-1]), False)


class Kinds(unittest.TestCase):
    def test_examples(self):
        self.assertEqual(overtaken(RUSH), [(0, 1)])
        self.assertEqual(overtaken(SWAP), [])
        self.assertEqual([is_causal(own) for own in (SWAP, RUSH, CALM)], [True, False, True])
        self.assertEqual(
            [kind_of(own) for own in (SWAP, RUSH, CALM, ())], ["causal", "any", "one by one", "one by one"])

    def test_against_the_words(self):
        found = {"any": 0, "causal": 0, "one by one": 0}
        for run in [*some_runs(4, 300), SWAP, RUSH, CALM, *EMPTY_RUNS]:
            pairs = oracles.overtaken(run)
            self.assertEqual(overtaken(run), pairs)
            self.assertIs(is_causal(run), not pairs)
            row_there = bool(oracles.letter_rows(run))
            self.assertIs(is_one_by_one(run), row_there)
            kind = "one by one" if row_there else "any" if pairs else "causal"
            self.assertEqual(kind_of(run), kind)
            found[kind] += 1
        self.assertGreater(min(found.values()), 10)

    def test_guarantees(self):
        for run in some_runs(5, 200, most=6):
            between = [ends_between(run, letter) for letter in letters_in(run)]
            self.assertIs(is_causal(run), not any(between))
            self.assertIs(is_one_by_one(run), crown(run) is None)
            if is_one_by_one(run):
                self.assertIs(is_causal(run), True)

    def test_overtaken_by_way_of_another_house(self):
        run = (((0, "s"), (1, "s")), ((1, "r"), (2, "s")), ((2, "r"), (0, "r")))
        self.assertEqual(overtaken(run), [(0, 2)])
        self.assertIs(is_causal(run), False)
        self.assertEqual(kind_of(run), "any")

    def test_overtaken_in_runs_of_more_letters(self):
        dice = random.Random(8)
        for _ in range(200):
            run = oracles.some_run(dice, dice.randint(5, 9), dice.randint(2, 4))
            self.assertEqual(overtaken(run), oracles.overtaken(run))

    def test_not_overtaken_by_what_is_only_handed_in_there(self):
        run = (((0, "s"), (2, "s")), ((2, "r"), (1, "s"), (0, "r")), ((1, "r"),))
        self.assertEqual(overtaken(run), [(0, 2)])

    def test_not_overtaken_by_what_was_only_handed_over_behind_its_s(self):
        run = (((0, "s"), (2, "s")), ((1, "s"),), ((2, "r"), (1, "r"), (0, "r")))
        self.assertEqual(overtaken(run), [(0, 2)])

    def test_overtaken_only_at_one_house_and_only_if_handed_in_ahead(self):
        apart = (((0, "s"), (1, "s")), ((1, "r"),), ((0, "r"),))
        self.assertEqual((overtaken(apart), kind_of(apart)), ([], "one by one"))
        unlinked = (((0, "s"),), ((1, "s"),), ((1, "r"), (0, "r")))
        self.assertEqual((overtaken(unlinked), kind_of(unlinked)), ([], "one by one"))

    def test_pairs_ascend_as_numbers(self):
        run = (((10, "s"), (9, "s"), (2, "s")), ((2, "r"), (9, "r"), (10, "r")))
        self.assertEqual(overtaken(run), [(9, 2), (10, 2), (10, 9)])

    def test_24_letters_all_overtaken(self):
        run = (tuple((k, "s") for k in range(24)), tuple((k, "r") for k in reversed(range(24))))
        self.assertEqual(overtaken(run), list(itertools.combinations(range(24), 2)))
        self.assertEqual((kind_of(run), crown(run)), ("any", (0, 1)))


class LetterRows(unittest.TestCase):
    def test_examples(self):
        self.assertEqual(letter_row(CALM), (0, 2, 1))
        self.assertIsNone(letter_row(SWAP))
        self.assertEqual(letter_row(()), ())
        self.assertIs(is_letter_row(CALM, (0, 2, 1)), True)
        self.assertIs(is_letter_row(CALM, (0, 1, 2)), False)

    def test_against_all_tuples_of_the_letters(self):
        for run in [*some_runs(6, 120, most=5), SWAP, RUSH, CALM, *EMPTY_RUNS]:
            rows = oracles.letter_rows(run)
            self.assertEqual(letter_row(run), rows[0] if rows else None)
            good = set(rows)
            for row in itertools.permutations(letters_in(run)):
                self.assertIs(is_letter_row(run, row), row in good)

    def test_the_least_goes_by_numbers(self):
        run = (((10, "s"),), ((10, "r"),), ((9, "s"),), ((9, "r"),))
        self.assertEqual(letter_row(run), (9, 10))
        self.assertIs(is_letter_row(run, (9, 10)), True)
        self.assertIs(is_letter_row(run, (10, 9)), True)

    def test_what_is_nearly_a_letter_row(self):
        for thing in (
            [0, 2, 1], ((0, 2, 1),), (0, 2), (0, 2, 1, 3), (0, 2, 1, 1), (0, 0, 2, 1), (0, 2, 2), (0, 2, True),
            (False, 2, 1), (0, 2, None), (0, 2, "1"), (0, 2, (1,)), (0, 2, [1]), (0, 2, -1), (1, 2, 0), (),
            (0, 2, 1, None), (0, 2, Unfit()), ((0, "s"), (2, "s"), (1, "s")), (0, 2, 10 ** 40),
        ):
            self.assertIs(is_letter_row(CALM, thing), False, thing)

    def test_nothing_odd_is_a_letter_row(self):
        for thing in odd_things():
            self.assertIs(is_letter_row(CALM, thing), False, thing)
            self.assertIs(is_letter_row(SWAP, thing), False, thing)

    def test_runs_without_letters(self):
        for run in EMPTY_RUNS:
            self.assertEqual(letter_row(run), ())
            self.assertIs(is_one_by_one(run), True)
            self.assertIs(is_letter_row(run, ()), True)
            self.assertIs(is_letter_row(run, []), False)
            self.assertIs(is_letter_row(run, (0,)), False)

    def test_the_greatest(self):
        self.assertEqual(kind_of(GREAT_RUN), "one by one")
        row = letter_row(GREAT_RUN)
        self.assertEqual(sorted(row), list(range(24)))
        self.assertIs(is_letter_row(GREAT_RUN, row), True)
        self.assertIs(is_letter_row(GREAT_RUN, tuple(range(24))), True)
        self.assertIs(is_letter_row(GREAT_RUN, row[::-1]), False)


class Crowns(unittest.TestCase):
    def test_examples(self):
        self.assertEqual(crown(SWAP), (0, 1))
        self.assertEqual(crown(RUSH), (0, 1))
        self.assertIsNone(crown(CALM))
        self.assertIs(is_crown(SWAP, (0, 1)), True)
        self.assertIs(is_crown(SWAP, (1, 0)), True)
        self.assertIs(is_crown(SWAP, (0, 2)), False)
        self.assertIs(is_crown(SWAP, (0,)), False)

    def test_against_all_tuples_of_the_letters(self):
        for run in [*some_runs(7, 150, most=5), SWAP, RUSH, CALM, *EMPTY_RUNS]:
            self.assertEqual(crown(run), oracles.least_crown(run))
            letters = letters_in(run)
            for many in range(1, len(letters) + 1):
                good = set(oracles.crowns(run, many)) if many > 1 else set()
                for row in itertools.permutations(letters, many):
                    self.assertIs(is_crown(run, row), row in good)

    def test_crowns_of_many_letters(self):
        for many in range(2, 17):
            run = ring_run(many)
            self.assertEqual(crown(run), tuple(range(many)))
            self.assertEqual(kind_of(run), "causal")
            self.assertIs(is_crown(run, tuple(range(many))), True)
            self.assertIs(is_crown(run, (*range(1, many), 0)), True)
            if many > 2:
                self.assertIs(is_crown(run, tuple(reversed(range(many)))), False)

    def test_as_few_as_can_be_goes_ahead_of_the_least(self):
        three = ring_run(3)
        two = (((8, "s"), (9, "r")), ((9, "s"), (8, "r")))
        self.assertEqual(crown(three + two), (8, 9))
        self.assertEqual(crown(three), (0, 1, 2))

    def test_the_least_may_begin_in_the_middle_of_the_numbers(self):
        swapped = {0: 5, 1: 2, 2: 7, 3: 3}
        run = tuple(tuple((swapped[k], end) for k, end in row) for row in ring_run(4))
        self.assertEqual(crown(run), oracles.least_crown(run))
        self.assertEqual(crown(run), (2, 7, 3, 5))

    def test_of_several_rounds_the_least(self):
        parts = [
            tuple(tuple((names[k], end) for k, end in row) for row in ring_run(3))
            for names in ((8, 3, 6), (2, 9, 10), (2 + 9, 0 + 4, 12))
        ]
        self.assertEqual(crown(parts[0] + parts[1] + parts[2]), (2, 9, 10))
        self.assertEqual(crown(parts[2] + parts[0]), (3, 6, 8))

    def test_what_is_nearly_a_crown(self):
        for thing in (
            [0, 1], ((0, 1),), (), (0,), (0, 0), (0, 1, 0), (0, 1, 1), (0, 1, 0, 1), (False, True), (0, True),
            (False, 1),
            (0, None), (0, "1"), (0, (1,)), (0, [1]), (0, -1), (0, 4), (4, 5), (0, 1, 4), (0, Unfit()),
            ((0, "s"), (1, "s")), (2, 3), (0, 10 ** 40),
        ):
            self.assertIs(is_crown(SWAP, thing), False, thing)

    def test_nothing_odd_is_a_crown(self):
        for thing in odd_things():
            self.assertIs(is_crown(SWAP, thing), False, thing)
            self.assertIs(is_crown((), thing), False, thing)

    def test_runs_without_letters(self):
        for run in EMPTY_RUNS:
            self.assertIsNone(crown(run))
            self.assertIs(is_crown(run, ()), False)
            self.assertIs(is_crown(run, (0, 1)), False)


if __name__ == "__main__":
    unittest.main()
