"""talk.py [13]."""

import random
import unittest

from barredcrossings.errors import NoHouse, NoLetter, NothingDone, Twice, Unfit
from barredcrossings.found import broken
from barredcrossings.marks import handed
from barredcrossings.patterns import is_wish
from barredcrossings.runs import ahead, is_causal, is_run, kind_of, letters_in
from barredcrossings.talk import Talk
from tests import oracles
from tests.samples import ANSWER, BOTH, CHAIN, CROSSING, ORDER, STUCK, THREE, free_patterns, nested, odd_things
from tests.slow_talk import Refused, SlowTalk

WISHES = (
    (), (CROSSING, ORDER), (ANSWER,), tuple(sorted([STUCK, ORDER, CROSSING, ANSWER, THREE, CHAIN])), (BOTH, ORDER),
    tuple(sorted(set(free_patterns(1, 4, 2, 4, 3)))),
)
NUMBERS = {"Twice": "twice", "NoHouse": "house", "NoLetter": "letter"}
ERRORS = (Twice, NoHouse, NoLetter, Unfit, NothingDone)


def all_of(talk):
    """All that a Talk tells without being asked for a letter."""
    return (
        len(talk), talk.wish(), talk.rows(), talk.on_way(), talk.run(), talk.kind(), talk.broken(), talk.safe(),
        talk.causal(),
    )


def some_deed(dice, houses, letters):
    """A word and its arguments, well or not, as the dice fall."""
    word = dice.choice(("send", "send", "send", "hand", "hand", "hand", "undo"))
    if word == "undo":
        return word, ()
    if word == "hand":
        return word, (dice.choice(letters),)
    return word, (dice.choice(letters), dice.randint(-1, houses), dice.randint(-1, houses))


def some_talk(dice, wish, deeds, houses=3):
    """A Talk, and a slow one, behind so many deeds."""
    talk, slow = Talk(houses, wish), SlowTalk(houses, wish)
    letter = 0
    while len(talk) < deeds:
        if letter < 12 and (not slow.on_way() or dice.random() < 0.5):
            near, far = dice.sample(range(houses), 2)
            talk.send(letter, near, far)
            slow.send(letter, near, far)
            letter += 1
        elif slow.on_way():
            own = dice.choice(slow.on_way())
            talk.hand(own)
            slow.hand(own)
        else:
            break
    return talk, slow


class Examples(unittest.TestCase):
    def setUp(self):
        self.chat = Talk(3, (CROSSING, ORDER))
        for word, *args in (("send", 0, 0, 2), ("send", 1, 0, 1), ("hand", 1), ("send", 2, 1, 2)):
            self.assertIsNone(getattr(self.chat, word)(*args))

    def test_examples(self):
        chat = self.chat
        self.assertEqual(chat.rows(), (((0, "s"), (1, "s")), ((1, "r"), (2, "s")), ()))
        self.assertEqual((chat.on_way(), chat.goal(1)), ((0, 2), 1))
        self.assertEqual(chat.run(), (((1, "s"),), ((1, "r"),), ()))
        self.assertEqual((chat.overtakes(2), chat.overtakes(0), chat.causal()), ((0,), (), (0,)))
        self.assertEqual((chat.broken_by(2), chat.broken_by(0), chat.safe()), ((), (), (0, 2)))

    def test_the_examples_go_on(self):
        chat = self.chat
        self.assertIsNone(chat.hand(2))
        self.assertEqual((chat.rows()[2], chat.kind(), chat.causal()), (((2, "r"),), "one by one", (0,)))
        self.assertEqual((chat.broken_by(0), chat.safe()), ((CROSSING, ORDER), ()))
        self.assertIsNone(chat.hand(0))
        self.assertEqual((chat.kind(), chat.broken()), ("any", (CROSSING, ORDER)))
        self.assertEqual((chat.on_way(), len(chat)), ((), 6))
        copy = chat.twin()
        self.assertIsNone(copy.undo())
        self.assertEqual((copy.broken(), copy == chat), ((), False))
        self.assertIsNone(chat.undo())
        self.assertIs(copy == chat, True)
        self.assertIsNone(copy.undo())
        self.assertIsNone(copy.hand(0))
        self.assertEqual(copy.causal(), (2,))
        self.assertIsNone(copy.hand(2))
        self.assertEqual((copy.kind(), copy.broken()), ("one by one", ()))

    def test_errors_of_the_examples(self):
        chat = self.chat
        chat.hand(2)
        for error, kept, call, args in (
            (Twice, {"twice": 2}, chat.send, (2, 0, 1)), (NoHouse, {"house": 3}, chat.send, (3, 0, 3)),
            (Unfit, {}, chat.send, (3, 1, 1)), (NoLetter, {"letter": 1}, chat.hand, (1,)),
            (NothingDone, {}, Talk(2, ()).undo, ()),
        ):
            with self.assertRaises(error) as caught:
                call(*args)
            self.assertEqual(vars(caught.exception), kept)


class BesideASlowOne(unittest.TestCase):
    def check(self, talk, slow, letters):
        self.assertEqual(all_of(talk), slow.all())
        self.assertIs(is_run(talk.run()), True)
        for letter in letters:
            for word in ("goal", "broken_by", "overtakes"):
                self.same(talk, slow, word, (letter,))

    def same(self, talk, slow, word, args):
        """The same result, or the same error, which changes nothing."""
        try:
            expected = getattr(slow, word)(*args)
        except Refused as refused:
            name, *kept = refused.args
            past = (all_of(talk), {letter: talk.goal(letter) for letter in slow.sent()})
            with self.assertRaises(ERRORS) as caught:
                getattr(talk, word)(*args)
            self.assertEqual(type(caught.exception).__name__, name)
            self.assertEqual(vars(caught.exception), {NUMBERS[name]: kept[0]} if kept else {})
            self.assertEqual((all_of(talk), {letter: talk.goal(letter) for letter in slow.sent()}), past)
            return name
        found = getattr(talk, word)(*args)
        self.assertEqual(found, expected)
        return "undone" if word == "undo" else "done"

    def test_behind_each_deed_and_each_undo(self):
        dice = random.Random(2)
        seen = {}
        for wish in WISHES:
            for _ in range(3):
                houses = dice.randint(2, 4)
                letters = dice.sample([*range(8), 10 ** 30], 7)
                talk, slow = Talk(houses, wish), SlowTalk(houses, wish)
                self.check(talk, slow, letters)
                for _ in range(30):
                    word, args = some_deed(dice, houses, letters)
                    told = self.same(talk, slow, word, args)
                    seen[told] = seen.get(told, 0) + 1
                    self.check(talk, slow, letters)
        self.assertEqual(
            set(seen), {"done", "undone", "Twice", "NoHouse", "NoLetter", "Unfit", "NothingDone"})
        self.assertGreater(min(seen.values()), 2)

    def test_sixty_deeds_and_back(self):
        dice = random.Random(3)
        talk, slow = some_talk(dice, WISHES[3], 24, houses=4)
        self.assertEqual((len(talk), len(slow.sent())), (24, 12))
        self.check(talk, slow, range(13))
        while len(talk):
            self.same(talk, slow, "undo", ())
            self.check(talk, slow, range(0, 13, 4))
        self.assertEqual(self.same(talk, slow, "undo", ()), "NothingDone")
        self.assertIs(talk == Talk(4, WISHES[3]), True)

    def test_twelve_letters_on_the_way(self):
        dice = random.Random(4)
        talk, slow = Talk(16, WISHES[1]), SlowTalk(16, WISHES[1])
        for letter in range(12):
            near = dice.randrange(15)
            talk.send(letter, near, 15)
            slow.send(letter, near, 15)
        self.check(talk, slow, range(13))
        for letter in (3, 11, 0):
            talk.hand(letter)
            slow.hand(letter)
            self.check(talk, slow, range(13))

    def test_sixty_deeds_of_few_letters(self):
        talk, slow = Talk(2, (CROSSING,)), SlowTalk(2, (CROSSING,))
        for letter in range(30):
            for one in (talk, slow):
                one.send(letter, letter % 2, 1 - letter % 2)
                one.hand(letter)
        self.assertEqual(len(talk), 60)
        self.assertEqual((talk.rows(), talk.run(), talk.kind()), (slow.rows(), slow.run(), "one by one"))
        for _ in range(60):
            self.assertIsNone(talk.undo())
        self.assertEqual(len(talk), 0)


class Errors(unittest.TestCase):
    def test_which_comes_first(self):
        talk = Talk(3, ())
        talk.send(5, 0, 1)
        talk.hand(5)
        talk.send(6, 1, 2)
        past = all_of(talk)
        for args, error, kept in (
            ((5, 7, 7), Twice, {"twice": 5}), ((6, 1, 1), Twice, {"twice": 6}), ((6, 0, 9), Twice, {"twice": 6}),
            ((5, 0, 1), Twice, {"twice": 5}), ((7, 3, 4), NoHouse, {"house": 3}), ((7, 4, 3), NoHouse, {"house": 4}),
            ((7, 3, 3), NoHouse, {"house": 3}), ((7, 0, 3), NoHouse, {"house": 3}), ((7, 3, 0), NoHouse, {"house": 3}),
            ((7, -1, 0), NoHouse, {"house": -1}), ((7, 0, -1), NoHouse, {"house": -1}),
            ((7, -3, -3), NoHouse, {"house": -3}), ((7, 0, -10 ** 30), NoHouse, {"house": -10 ** 30}),
            ((7, 10 ** 30, 0), NoHouse, {"house": 10 ** 30}),
            ((7, 0, 0), Unfit, {}), ((7, 2, 2), Unfit, {}), ((10 ** 30, 1, 1), Unfit, {}),
        ):
            with self.assertRaises(error) as caught:
                talk.send(*args)
            self.assertIs(type(caught.exception), error)
            self.assertEqual(vars(caught.exception), kept)
            self.assertEqual(all_of(talk), past)
        for letter in (5, 7, 0, 10 ** 30):
            for call in (talk.hand, talk.broken_by, talk.overtakes):
                with self.assertRaises(NoLetter) as caught:
                    call(letter)
                self.assertEqual(caught.exception.letter, letter)
                self.assertEqual(all_of(talk), past)
        self.assertEqual([talk.goal(5), talk.goal(6)], [1, 2])
        for letter in (7, 0, 10 ** 30):
            with self.assertRaises(NoLetter) as caught:
                talk.goal(letter)
            self.assertEqual(caught.exception.letter, letter)
        self.assertEqual(all_of(talk), past)

    def test_nothing_done(self):
        talk = Talk(2, (ORDER,))
        with self.assertRaises(NothingDone):
            talk.undo()
        talk.send(0, 0, 1)
        talk.undo()
        with self.assertRaises(NothingDone):
            talk.undo()
        self.assertEqual((len(talk), talk.rows(), talk.on_way()), (0, ((), ()), ()))
        with self.assertRaises(NoLetter):
            talk.goal(0)
        talk.send(0, 1, 0)
        self.assertEqual(talk.goal(0), 0)

    def test_the_greatest_and_the_least_house(self):
        for houses in (2, 16):
            talk = Talk(houses, ())
            talk.send(0, houses - 1, 0)
            talk.send(1, 0, houses - 1)
            with self.assertRaises(NoHouse):
                talk.send(2, houses, 0)
            talk.hand(0)
            self.assertEqual(len(talk.rows()), houses)
            self.assertEqual(talk.rows()[0], ((1, "s"), (0, "r")))


class Twins(unittest.TestCase):
    def test_twins_share_nothing(self):
        dice = random.Random(5)
        for wish in WISHES:
            talk, slow = some_talk(dice, wish, dice.randint(0, 14))
            past = all_of(talk)
            for call in ("undo", "hand", "send"):
                copy = talk.twin()
                self.assertIs(copy == talk, True)
                self.assertEqual(all_of(copy), past)
                if call == "undo" and len(copy):
                    copy.undo()
                elif call == "hand" and copy.on_way():
                    copy.hand(copy.on_way()[-1])
                else:
                    copy.send(99, 0, 1)
                self.assertEqual(all_of(talk), past)
                self.assertIs(copy == talk, False)
                self.assertEqual(all_of(talk), slow.all())

    def test_the_same_deeds_to_take_back(self):
        dice = random.Random(6)
        talk, slow = some_talk(dice, (ORDER,), 12)
        copy = talk.twin()
        again = copy.twin()
        while len(talk):
            talk.undo()
            slow.undo()
            self.assertEqual(all_of(talk), slow.all())
        self.assertEqual(len(copy), 12)
        while len(copy):
            copy.undo()
        self.assertIs(copy == talk, True)
        self.assertEqual(len(again), 12)
        with self.assertRaises(NothingDone):
            copy.undo()

    def test_a_talk_copies_its_wish(self):
        wish = [[["a", "s", "b", "s"]], [["a", "s", "b", "s"], ["b", "r", "a", "r"]]]
        talk = Talk(2, wish)
        self.assertEqual(talk.wish(), ((ORDER[0],), ORDER))
        wish[1].pop()
        wish[0][0][0] = "h"
        wish.append(None)
        self.assertEqual(talk.wish(), ((ORDER[0],), ORDER))
        self.assertIs(is_wish(talk.wish()), True)

    def test_what_is_told_is_no_part_of_the_talk(self):
        talk = Talk(3, [list(ORDER)])
        talk.send(0, 0, 1)
        for told in (talk.wish(), talk.rows(), talk.on_way(), talk.run(), talk.broken(), talk.safe(), talk.causal()):
            self.assertIs(type(told), tuple)
            self.assertTrue(all(not isinstance(part, list) for part in told))


class Equal(unittest.TestCase):
    def test_by_wish_rows_and_goals(self):
        def talk(houses=3, wish=(ORDER,), *sends):
            made = Talk(houses, wish)
            for send in sends:
                made.send(*send)
            return made

        self.assertIs(talk() == talk(), True)
        self.assertIs(talk() != talk(), False)
        self.assertIs(talk() == talk(3, [list(ORDER)]), True)
        for other in (talk(4), talk(3, ()), talk(3, (CROSSING,)), talk(3, (CROSSING, ORDER)), talk(2)):
            self.assertIs(talk() == other, False)
            self.assertIs(talk() != other, True)
        one = talk(3, (ORDER,), (0, 0, 1))
        self.assertIs(one == talk(3, (ORDER,), (0, 0, 1)), True)
        for other in (
            talk(3, (ORDER,), (0, 0, 2)), talk(3, (ORDER,), (1, 0, 1)), talk(3, (ORDER,), (0, 2, 1)),
            talk(3, (ORDER,), (0, 0, 1), (1, 0, 1)), talk(), talk(4, (ORDER,), (0, 0, 1)), talk(3, (), (0, 0, 1)),
        ):
            self.assertIs(one == other, False)
            self.assertIs(other == one, False)

    def test_deeds_in_another_order(self):
        one, other = Talk(3, ()), Talk(3, ())
        for talk, order in ((one, (0, 1)), (other, (1, 0))):
            for letter in order:
                talk.send(letter, letter, 2)
        self.assertIs(one == other, True)
        one.undo()
        other.undo()
        self.assertIs(one == other, False)

    def test_where_letters_that_are_handed_over_went(self):
        one, other = Talk(3, ()), Talk(3, ())
        one.send(0, 0, 1)
        other.send(0, 0, 2)
        self.assertIs(one == other, False)
        one.hand(0)
        other.hand(0)
        self.assertIs(one == other, False)
        other.undo()
        other.undo()
        other.send(0, 0, 1)
        self.assertIs(one == other, False)
        other.hand(0)
        self.assertIs(one == other, True)

    def test_with_other_things(self):
        talk = Talk(7, ())
        for thing in [*odd_things(), (), [], 0, (7, ()), talk.rows(), "Talk", {}, SlowTalk(7, ())]:
            self.assertIs(talk == thing, False)
            self.assertIs(thing == talk, False)
            self.assertIs(talk != thing, True)
        self.assertIs(talk == talk, True)
        self.assertIn(talk, [None, Talk(7, ())])
        self.assertIs((0, talk) == (0, Talk(7, ())), True)
        self.assertIs(nested(talk, 3) == nested(Talk(3, ()), 3), False)

    def test_by_way_of_undo(self):
        dice = random.Random(7)
        for wish in WISHES:
            talk, _ = some_talk(dice, wish, 8)
            other = talk.twin()
            other.send(50, 1, 2)
            self.assertIs(talk == other, False)
            other.undo()
            self.assertIs(talk == other, True)


class Iteration(unittest.TestCase):
    def test_it_raises(self):
        empty, talk = Talk(2, ()), Talk(2, ())
        talk.send(0, 0, 1)
        for own in (empty, talk):
            for call in (iter, list, tuple, set, sorted, lambda own: [k for k in own], lambda own: 0 in own):
                with self.assertRaises(TypeError):
                    call(own)
        self.assertEqual((len(empty), len(talk)), (0, 1))


class Guarantees(unittest.TestCase):
    def test_what_is_broken_stays_so(self):
        dice = random.Random(8)
        for _ in range(40):
            talk = Talk(3, dice.choice(WISHES))
            past = ()
            letter = 0
            for _ in range(20):
                if letter < 10 and (not talk.on_way() or dice.random() < 0.5):
                    talk.send(letter, *dice.sample(range(3), 2))
                    letter += 1
                elif talk.on_way():
                    own = dice.choice(talk.on_way())
                    more = talk.broken_by(own)
                    talk.hand(own)
                    self.assertEqual(talk.broken(), tuple(sorted(past + more)))
                self.assertLessEqual(set(past), set(talk.broken()))
                past = talk.broken()

    def test_only_safe_letters_break_nothing(self):
        dice = random.Random(9)
        for _ in range(20):
            talk = Talk(3, (CROSSING, ORDER))
            for letter in range(10):
                talk.send(letter, *dice.sample(range(3), 2))
                while talk.safe() and dice.random() < 0.6:
                    talk.hand(dice.choice(talk.safe()))
            self.assertEqual(talk.broken(), ())
            self.assertEqual(broken(talk.run(), talk.wish()), ())

    def test_letters_of_causal_alone(self):
        dice = random.Random(10)
        kinds = set()
        for _ in range(30):
            talk = Talk(3, ())
            for letter in range(12):
                talk.send(letter, *dice.sample(range(3), 2))
                while talk.on_way() and dice.random() < 0.5:
                    self.assertNotEqual(talk.causal(), ())
                    talk.hand(dice.choice(talk.causal()))
                self.assertIs(is_causal(talk.run()), True)
            while talk.on_way():
                self.assertNotEqual(talk.causal(), ())
                talk.hand(dice.choice(talk.causal()))
            self.assertEqual(talk.run(), talk.rows())
            self.assertEqual(handed(talk.run()), talk.run())
            self.assertFalse(oracles.overtaken(talk.run()))
            kinds.add(talk.kind())
        self.assertEqual(kinds - {"one by one"}, {"causal"})

    def test_the_run_is_a_run_and_no_more_is_ahead_later(self):
        dice = random.Random(11)
        for _ in range(10):
            talk, slow = some_talk(dice, (), 14)
            run = talk.run()
            self.assertEqual(kind_of(run), talk.kind())
            self.assertEqual(letters_in(run), tuple(sorted(slow.over())))
            for letter in talk.on_way():
                for other in talk.overtakes(letter):
                    later = talk.twin()
                    later.hand(letter)
                    later.hand(other)
                    self.assertIs(ahead(later.run(), (other, "s"), (letter, "s")), True)
                    self.assertIn((other, letter), oracles.overtaken(later.run()))


if __name__ == "__main__":
    unittest.main()
