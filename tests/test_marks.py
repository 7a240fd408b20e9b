"""marks.py [11], and what the overview [1] says in (c)."""

import itertools
import random
import unittest

from barredcrossings.built import run_with
from barredcrossings.errors import NoLetter
from barredcrossings.marks import (
    due_ahead, handed, held, known_letters, matrix, most_held, too_late, waits,
)
from barredcrossings.runs import ends_in, is_causal, is_run, letters_in
from tests import oracles
from tests.samples import (
    CALM, CROSSING, GREAT, GREAT_ASKS, ORDER, RUSH, SWAP, THREE, free_patterns, great_run, ring_run, some_runs,
)

RUN = (((0, "s"), (1, "s"), (2, "r")), ((1, "r"), (2, "s"), (0, "r")))
LATE = (((0, "s"), (1, "s"), (2, "s")), ((2, "r"), (1, "r"), (0, "r")))
# 1 is sent behind 0 and lets 2 go; 2 may be handed over at house 2 only behind 0.
AROUND = (((0, "s"), (1, "s")), ((1, "r"), (2, "s")), ((2, "r"), (0, "r")))
SAMPLES = (
    RUN, LATE, AROUND, RUSH, SWAP, CALM, ring_run(2), ring_run(5), (), ((),), ((), (), ()),
    (((7, "s"),), (), ((7, "r"),)),
)


def busy_runs(seed, times, many):
    """RUNS of two or three houses whose first one hands in many letters that come in any order."""
    dice = random.Random(seed)
    for _ in range(times):
        rows = [[], [], []]
        order = dice.sample(range(many), many)
        for letter in order:
            rows[0].append((letter, "s"))
        for letter in dice.sample(range(many), many):
            rows[dice.choice((1, 1, 2))].append((letter, "r"))
        extra = many
        for near, far in ((1, 2), (2, 1)):
            if dice.random() < 0.5:
                at = dice.randint(0, len(rows[near]))
                rows[near].insert(at, (extra, "s"))
                rows[far].append((extra, "r"))
                extra += 1
        run = tuple(tuple(row) for row in rows)
        if oracles.is_run(run):
            yield run


class Examples(unittest.TestCase):
    def test_examples(self):
        self.assertEqual(known_letters(RUN, (0, "r")), (0, 1, 2))
        self.assertEqual(known_letters(RUN, (1, "s")), (0,))
        self.assertEqual(known_letters(RUN, (0, "s")), ())
        self.assertEqual(matrix(RUN, (0, "r")), ((0, 2), (1, 0)))
        self.assertEqual(matrix(RUN, (1, "s")), ((0, 1), (0, 0)))
        self.assertEqual(due_ahead(RUN, 1), (0,))
        self.assertEqual(due_ahead(RUN, 0), ())
        self.assertEqual(due_ahead(RUN, 2), ())
        self.assertEqual(too_late(RUN, 1), (0,))
        self.assertEqual(too_late(RUN, 0), ())

    def test_examples_of_holding(self):
        self.assertEqual(handed(RUN), (((0, "s"), (1, "s"), (2, "r")), ((2, "s"), (0, "r"), (1, "r"))))
        self.assertEqual((held(RUN), waits(RUN), most_held(RUN)), ((1,), [(1, 1)], 1))
        self.assertEqual(handed(handed(RUN)), handed(RUN))
        self.assertEqual((held(handed(RUN)), most_held(handed(RUN))), ((), 0))
        self.assertEqual(handed(LATE), (((0, "s"), (1, "s"), (2, "s")), ((0, "r"), (1, "r"), (2, "r"))))
        self.assertEqual((waits(LATE), most_held(LATE)), ([(1, 1), (2, 2)], 2))
        with self.assertRaises(NoLetter) as caught:
            known_letters(RUN, (3, "s"))
        self.assertEqual(caught.exception.letter, 3)


class Marks(unittest.TestCase):
    def check_end(self, run, end):
        known = oracles.known(run, end)
        self.assertEqual(known_letters(run, end), known)
        counts = [[0] * len(run) for _ in run]
        for letter in known:
            counts[oracles.house_of(run, (letter, "s"))][oracles.house_of(run, (letter, "r"))] += 1
        self.assertEqual(matrix(run, end), tuple(tuple(row) for row in counts))
        self.assertIs(end[0] in known, end[1] == "r")

    def check_letter(self, run, letter):
        due = oracles.due(run, letter)
        self.assertEqual(due_ahead(run, letter), due)
        pairs = oracles.ahead_pairs(run)
        late = tuple(x for x in due if ((letter, "r"), (x, "r")) in pairs)
        self.assertEqual(too_late(run, letter), late)
        self.assertEqual([(x, letter) for x in late], [p for p in oracles.overtaken(run) if p[1] == letter])
        return late

    def test_each_end_and_each_letter(self):
        late = set()
        for run in [*SAMPLES, *some_runs(1, 60), *busy_runs(2, 20, 5)]:
            for end in ends_in(run):
                self.check_end(run, end)
            for letter in letters_in(run):
                late.add(len(self.check_letter(run, letter)))
        self.assertLessEqual({0, 1, 2, 3}, late)

    def test_great_runs(self):
        for run in (great_run(), run_with(GREAT_ASKS, "causal"), oracles.some_run(random.Random(3), 24, 16)):
            self.assertEqual(len(letters_in(run)), 24)
            for end in ends_in(run)[::5]:
                self.check_end(run, end)
            for letter in letters_in(run)[::5]:
                self.check_letter(run, letter)

    def test_a_causal_run_has_all_that_is_due(self):
        dice = random.Random(4)
        for _ in range(30):
            run = handed(oracles.some_run(dice, 6, 3))
            for letter in letters_in(run):
                self.assertEqual(too_late(run, letter), ())

    def test_rows_without_ends_count_as_houses(self):
        run = ((), ((4, "s"),), (), ((4, "r"), (2, "s")), ((2, "r"),))
        self.assertEqual(known_letters(run, (2, "r")), (2, 4))
        self.assertEqual(matrix(run, (2, "s")), (
            (0, 0, 0, 0, 0), (0, 0, 0, 1, 0), (0, 0, 0, 0, 0), (0, 0, 0, 0, 0), (0, 0, 0, 0, 0)))
        self.assertEqual(matrix(run, (4, "s")), ((0,) * 5,) * 5)

    def test_letters_that_are_not_there(self):
        for run in (RUN, (), ((), ()), great_run()):
            for letter in (99, 10 ** 30):
                for call, arg in (
                    (known_letters, (letter, "s")), (known_letters, (letter, "r")), (matrix, (letter, "s")),
                    (matrix, [letter, "r"]), (due_ahead, letter), (too_late, letter),
                ):
                    with self.assertRaises(NoLetter) as caught:
                        call(run, arg)
                    self.assertEqual(caught.exception.letter, letter)


class HoldingBack(unittest.TestCase):
    def check(self, run, dice):
        rows, later, most = oracles.played(run, dice)
        self.assertEqual(handed(run), rows, run)
        waiting = [(letter, number) for letter, number in sorted(later.items()) if number]
        self.assertEqual(waits(run), waiting)
        self.assertEqual(held(run), tuple(letter for letter, _ in waiting))
        self.assertEqual(most_held(run), most)
        self.check_guarantees(run)
        return most

    def check_guarantees(self, run):
        found = handed(run)
        self.assertIs(is_run(found), True)
        self.assertFalse(oracles.overtaken(found))
        self.assertIs(is_causal(found), True)
        self.assertIs(found == run, is_causal(run))
        self.assertIs(held(run) == (), is_causal(run))
        self.assertEqual(handed(found), found)
        self.assertEqual((held(found), waits(found), most_held(found)), ((), [], 0))
        for old, new in zip(run, found):
            self.assertEqual(sorted(old), sorted(new))
            sent = [end for end in old if end[1] == "s"]
            self.assertEqual([end for end in new if end[1] == "s"], sent)

    def test_samples(self):
        dice = random.Random(5)
        for run in SAMPLES:
            for _ in range(3):
                self.check(run, dice)

    def test_runs_that_come(self):
        dice = random.Random(6)
        found = {True: 0, False: 0}
        for run in some_runs(7, 150, 7):
            self.check(run, dice)
            found[is_causal(run)] += 1
        self.assertGreater(min(found.values()), 25)

    def test_several_letters_wait_at_one_house(self):
        dice = random.Random(8)
        most = {self.check(run, dice) for run in busy_runs(9, 60, 6)}
        self.assertLessEqual({1, 2, 3, 4}, most)

    def test_all_runs_of_four_letters_between_two_houses(self):
        dice = random.Random(10)
        sent = tuple((letter, "s") for letter in range(4))
        for row in itertools.permutations(range(4)):
            run = (sent, tuple((letter, "r") for letter in row))
            self.check(run, dice)
            self.assertEqual(handed(run), (sent, tuple((letter, "r") for letter in range(4))))

    def test_nobody_is_overtaken(self):
        dice = random.Random(11)
        for run in (CALM, SWAP, great_run(), ring_run(6), (), ((), ())):
            self.check(run, dice)
            self.assertEqual((handed(run), held(run), waits(run), most_held(run)), (run, (), [], 0))

    def test_one_handing_over_sets_others_free(self):
        run = (((0, "s"), (1, "s"), (2, "s"), (3, "s")), ((3, "r"), (1, "r"), (2, "r"), (0, "r")))
        self.assertEqual(handed(run)[1], ((0, "r"), (1, "r"), (2, "r"), (3, "r")))
        self.assertEqual((waits(run), most_held(run)), ([(1, 2), (2, 1), (3, 3)], 3))

    def test_the_first_arrived_one_goes_first(self):
        # 1 and 2 both wait for 0 alone, and 2 has arrived first.
        run = (
            ((0, "s"), (5, "s"), (6, "s")), ((5, "r"), (1, "s")), ((6, "r"), (2, "s")),
            ((2, "r"), (1, "r"), (0, "r")),
        )
        self.assertEqual(handed(run)[3], ((0, "r"), (2, "r"), (1, "r")))
        self.assertEqual((waits(run), most_held(run)), ([(1, 1), (2, 2)], 2))
        run = run[:3] + (((1, "r"), (2, "r"), (0, "r")),)
        self.assertEqual(handed(run)[3], ((0, "r"), (1, "r"), (2, "r")))

    def test_again_and_again_from_the_first_arrived_one(self):
        # Behind 0, 4 may be handed over, then 1, which waited for it and had arrived ahead of 2.
        run = (
            ((0, "s"), (4, "s"), (1, "s"), (5, "s")), ((5, "r"), (2, "s")),
            ((1, "r"), (2, "r"), (4, "r"), (0, "r")),
        )
        self.assertEqual(handed(run), oracles.played(run, random.Random(0))[0])
        self.assertEqual(handed(run)[2], ((0, "r"), (4, "r"), (1, "r"), (2, "r")))

    def test_by_way_of_other_houses(self):
        self.assertEqual(handed(AROUND), AROUND[:2] + (((0, "r"), (2, "r")),))
        self.assertEqual((held(AROUND), waits(AROUND), most_held(AROUND)), ((2,), [(2, 1)], 1))

    def test_ahead_goes_by_the_handings_over_not_by_the_arrivals(self):
        # 1 arrives at house 1 ahead of where 2 is handed in, but is handed over behind it: so 2,
        # at house 2, need not wait for 3, which was handed in ahead of 1.
        run = (
            ((0, "s"), (3, "s"), (1, "s")), ((1, "r"), (2, "s"), (0, "r")), ((2, "r"), (3, "r")),
        )
        self.assertEqual(oracles.overtaken(run), [(0, 1), (3, 2)])
        self.assertEqual(handed(run), (run[0], ((2, "s"), (0, "r"), (1, "r")), run[2]))
        self.assertEqual((held(run), most_held(run)), ((1,), 1))

    def test_what_was_sent_ahead_but_not_to_this_house_is_not_waited_for(self):
        run = (((0, "s"), (1, "s"), (2, "s")), ((1, "r"), (2, "r")), ((0, "r"),))
        self.assertEqual(handed(run), run)

    def test_waiting_at_several_houses_at_once(self):
        run = (
            ((0, "s"), (1, "s"), (2, "s"), (3, "s"), (4, "s"), (5, "s")),
            ((2, "r"), (1, "r"), (0, "r")), ((5, "r"), (4, "r"), (3, "r")),
        )
        self.assertEqual((held(run), most_held(run)), ((1, 2, 4, 5), 2))

    def test_runs_that_were_built(self):
        dice = random.Random(12)
        for pattern in [*free_patterns(13, 20, 2, 5, 8), ORDER, CROSSING, THREE]:
            run = run_with(pattern, "any")
            if run is not None:
                self.check(run, dice)

    def test_sixteen_rows_and_twenty_four_letters(self):
        dice = random.Random(14)
        for houses in (2, 3, 16):
            run = oracles.some_run(dice, 24, houses)
            self.check_guarantees(run)
        self.check_guarantees(run_with(GREAT_ASKS, "any"))
        self.check_guarantees(run_with(GREAT, "any"))
        sent = tuple((letter, "s") for letter in range(24))
        run = (sent, tuple((letter, "r") for letter in range(23, -1, -1))) + ((),) * 14
        self.assertEqual(handed(run), (sent, tuple((letter, "r") for letter in range(24))) + ((),) * 14)
        self.assertEqual(waits(run), [(letter, letter) for letter in range(1, 24)])
        self.assertEqual((held(run), most_held(run)), (tuple(range(1, 24)), 23))


if __name__ == "__main__":
    unittest.main()
