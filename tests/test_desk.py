"""desk.py [15]."""

import random
import unittest

from barredcrossings.desk import replies
from barredcrossings.errors import BadLine
from barredcrossings.sorts import sort_of
from barredcrossings.talk import Talk
from barredcrossings.texts import pattern_text, run_text, wish_text
from tests.samples import ANSWER, CHAIN, CROSSING, GREAT, ORDER, STUCK, THREE, free_patterns
from tests.slow_talk import Refused, SlowTalk

WISHES = ((), (CROSSING, ORDER), (ANSWER,), tuple(sorted([STUCK, ORDER, CROSSING, ANSWER, THREE, CHAIN])))
PLAIN = ("undo", "rows", "run", "way", "safe", "causal", "kind", "broken", "deeds")


def letters_text(letters):
    return " ".join(map(str, letters)) or "-"


def slow_reply(slow, words):
    """What the table says of a request, of a slow Talk."""
    word, numbers = words[0], [int(own) for own in words[1:] if own.isdigit()]
    if word in ("send", "hand", "undo"):
        getattr(slow, word)(*numbers)
        return run_text(slow.rows())
    if word in ("rows", "run"):
        return run_text(getattr(slow, word)())
    if word == "way":
        return letters_text(slow.on_way())
    if word in ("safe", "causal", "overtakes"):
        return letters_text(getattr(slow, word)(*numbers))
    if word in ("goal", "kind"):
        return str(getattr(slow, word)(*numbers))
    if word == "broken":
        return wish_text(slow.broken())
    if word == "breaks":
        return wish_text(slow.broken_by(*numbers))
    return str(slow.count())


def slow_replies(houses, wish, requests):
    slow = SlowTalk(houses, wish)
    found = []
    for request in requests:
        try:
            found.append(slow_reply(slow, request.split(" ")))
        except Refused as refused:
            found.append(" ".join(["refused", *map(str, refused.args)]))
    return found


def text_of(houses, wish, requests):
    return "\n".join([str(houses), wish_text(wish), *requests])


class Examples(unittest.TestCase):
    def test_the_first_one(self):
        wish = "a.s<b.r b.s<a.r; a.s<b.s b.r<a.r"
        requests = (
            "send 0 0 2", "send 1 0 1", "hand 1", "send 2 1 2", "way", "overtakes 2", "causal", "hand 2", "run", "kind",
            "breaks 0", "safe", "hand 0", "broken", "kind", "undo", "deeds",
        )
        self.assertEqual(replies("\n".join(["3", wish, *requests])), [
            "0s / - / -", "0s 1s / - / -", "0s 1s / 1r / -", "0s 1s / 1r 2s / -", "0 2", "0", "0",
            "0s 1s / 1r 2s / 2r", "1s / 1r 2s / 2r", "one by one", wish, "-", "0s 1s / 1r 2s / 2r 0r", wish, "any",
            "0s 1s / 1r 2s / 2r", "5"])

    def test_the_second_one(self):
        self.assertEqual(
            replies(
                "2\n-\nundo\nrows\nway\nhand 0\nsend 0 0 2\nsend 0 1 1\nsend 0 1 0\nsend 0 0 1\ngoal 0\ngoal 7\n"
                "broken\nsort a.s<b.s b.r<a.r\nsort a.r<b.s"),
            ["refused NothingDone", "- / -", "-", "refused NoLetter 0", "refused NoHouse 2", "refused Unfit",
             "- / 0s", "refused Twice 0", "0", "refused NoLetter 7", "-", "marks", "never"])

    def test_the_others(self):
        self.assertEqual(replies("2\n-"), [])
        for text, number in (("1\n-", 0), ("2", 1), ("2\n-\nhand 01", 2)):
            with self.assertRaises(BadLine) as caught:
                replies(text)
            self.assertEqual(caught.exception.number, number)


class Table(unittest.TestCase):
    """Each row of the table, with what it refuses."""

    def ask(self, *requests, houses=3, wish="-"):
        return replies("\n".join([str(houses), wish, *requests]))

    def test_send(self):
        self.assertEqual(
            self.ask("send 7 2 0", "send 7 2 0", "send 7 9 9", "send 8 9 8", "send 8 0 9", "send 8 1 1", "rows"),
            ["- / - / 7s", "refused Twice 7", "refused Twice 7", "refused NoHouse 9", "refused NoHouse 9",
             "refused Unfit", "- / - / 7s"])
        self.assertEqual(self.ask("send 1 3 3", "send 1 3 0", "deeds", "goal 1"),
                         ["refused NoHouse 3", "refused NoHouse 3", "0", "refused NoLetter 1"])

    def test_the_first_house_is_where_it_is_handed_in(self):
        self.assertEqual(self.ask("send 0 0 2", "hand 0", "goal 0"), ["0s / - / -", "0s / - / 0r", "2"])

    def test_hand_and_undo(self):
        self.assertEqual(
            self.ask("hand 0", "send 0 0 1", "hand 0", "hand 0", "hand 3", "undo", "undo", "undo", "hand 0"),
            ["refused NoLetter 0", "0s / - / -", "0s / 0r / -", "refused NoLetter 0", "refused NoLetter 3",
             "0s / - / -", "- / - / -", "refused NothingDone", "refused NoLetter 0"])

    def test_rows_run_way_deeds(self):
        self.assertEqual(
            self.ask("rows", "run", "way", "deeds", "send 12 0 1", "send 3 1 2", "rows", "run", "way", "deeds",
                     "hand 12", "rows", "run", "way", "deeds"),
            ["- / - / -", "- / - / -", "-", "0", "12s / - / -", "12s / 3s / -", "12s / 3s / -", "- / - / -", "3 12",
             "2", "12s / 3s 12r / -", "12s / 3s 12r / -", "12s / 12r / -", "3", "3"])

    def test_causal_and_overtakes(self):
        self.assertEqual(
            self.ask("causal", "overtakes 0", "send 0 0 1", "send 1 0 1", "send 2 0 1", "overtakes 2", "overtakes 1",
                     "overtakes 0", "causal", "hand 0", "overtakes 0", "overtakes 2", "causal"),
            ["-", "refused NoLetter 0", "0s / - / -", "0s 1s / - / -", "0s 1s 2s / - / -", "0 1", "0", "-", "0",
             "0s 1s 2s / 0r / -", "refused NoLetter 0", "1", "1"])

    def test_goal_and_kind(self):
        self.assertEqual(
            self.ask("goal 0", "kind", "send 0 0 2", "goal 0", "send 1 0 2", "hand 1", "goal 1", "kind", "hand 0",
                     "kind", "undo", "undo", "hand 0", "hand 1", "kind"),
            ["refused NoLetter 0", "one by one", "0s / - / -", "2", "0s 1s / - / -", "0s 1s / - / 1r", "2",
             "one by one", "0s 1s / - / 1r 0r", "any", "0s 1s / - / 1r", "0s 1s / - / -", "0s 1s / - / 0r",
             "0s 1s / - / 0r 1r", "one by one"])
        self.assertEqual(self.ask("send 0 0 1", "send 1 1 0", "hand 0", "hand 1", "kind")[-1], "causal")

    def test_broken_breaks_and_safe(self):
        wish = "a.s<b.r b.s<a.r; a.s<b.s b.r<a.r"
        self.assertEqual(
            self.ask("broken", "safe", "breaks 0", "send 0 0 1", "send 1 1 0", "safe", "hand 0", "breaks 1", "breaks 0",
                     "safe", "broken", "hand 1", "broken", "breaks 1", wish=wish),
            ["-", "-", "refused NoLetter 0", "0s / - / -", "0s / 1s / -", "0 1", "0s / 1s 0r / -", "a.s<b.r b.s<a.r",
             "refused NoLetter 0", "-", "-", "0s 1r / 1s 0r / -", "a.s<b.r b.s<a.r", "refused NoLetter 1"])

    def test_sort(self):
        for pattern in (STUCK, ORDER, CROSSING, ANSWER, GREAT, *free_patterns(1, 30, 2, 8)):
            self.assertEqual(self.ask("sort " + pattern_text(pattern)), [sort_of(pattern)])

    def test_great_numbers(self):
        great = str(10 ** 30)
        self.assertEqual(
            self.ask(f"send {great} 0 1", f"send {great} 0 1", f"goal {great}", "way", f"send 1 {great} 0",
                     f"hand 2{great}", f"hand {great}", "rows"),
            [f"{great}s / - / -", f"refused Twice {great}", "1", great, f"refused NoHouse {great}",
             f"refused NoLetter 2{great}", f"{great}s / {great}r / -", f"{great}s / {great}r / -"])

    def test_a_refused_request_changes_nothing(self):
        look = ("rows", "run", "way", "safe", "causal", "kind", "broken", "deeds", "goal 0", "goal 1", "overtakes 1")
        deeds = ("send 0 0 1", "send 1 2 1", "send 2 0 2", "hand 2")
        plain = self.ask(*deeds, *look, wish="a.r<b.s")
        for bad in ("send 0 0 1", "send 5 0 3", "send 5 4 0", "send 5 1 1", "hand 2", "hand 5", "goal 5", "breaks 2",
                    "overtakes 2", "overtakes 9"):
            found = self.ask(*deeds, bad, *look, wish="a.r<b.s")
            self.assertTrue(found[4].startswith("refused "), bad)
            self.assertEqual(found[:4] + found[5:], plain)

    def test_two_and_sixteen_houses(self):
        self.assertEqual(self.ask("rows", houses=2), ["- / -"])
        self.assertEqual(self.ask("rows", "send 0 15 0", houses=16), [" / ".join("-" * 16), "- / " * 15 + "0s"])

    def test_the_list_is_new(self):
        found = replies("2\n-\nrows")
        found.append("more")
        self.assertEqual(replies(text="2\n-\nrows"), ["- / -"])


class BesideATalk(unittest.TestCase):
    def test_a_desk_tells_what_a_slow_talk_tells(self):
        dice = random.Random(2)
        seen = set()
        for wish in WISHES:
            for _ in range(8):
                houses = dice.randint(2, 4)
                requests = []
                for _ in range(50):
                    word = dice.choice(("send", "send", "hand", "hand", "overtakes", "breaks", "goal", *PLAIN))
                    letter = str(dice.randrange(7))
                    if word == "send":
                        requests.append(f"send {letter} {dice.randint(0, houses)} {dice.randint(0, houses)}")
                    else:
                        requests.append(word if word in PLAIN else f"{word} {letter}")
                found = replies(text_of(houses, wish, requests))
                self.assertEqual(found, slow_replies(houses, wish, requests))
                seen |= {reply.split(" ")[1] for reply in found if reply.startswith("refused")}
        self.assertEqual(seen, {"NothingDone", "NoLetter", "NoHouse", "Unfit", "Twice"})

    def test_a_desk_tells_what_the_talk_tells(self):
        dice = random.Random(3)
        for wish in WISHES:
            talk = Talk(3, wish)
            deeds = []
            for letter in range(8):
                near, far = dice.sample(range(3), 2)
                talk.send(letter, near, far)
                deeds.append(f"send {letter} {near} {far}")
                if dice.random() < 0.7:
                    own = dice.choice(talk.on_way())
                    talk.hand(own)
                    deeds.append(f"hand {own}")
                found = replies(text_of(3, wish, [*deeds, *PLAIN[1:]]))[len(deeds):]
                self.assertEqual(found, [
                    run_text(talk.rows()), run_text(talk.run()), letters_text(talk.on_way()),
                    letters_text(talk.safe()), letters_text(talk.causal()), talk.kind(), wish_text(talk.broken()),
                    str(len(talk))])

    def test_sixty_lines(self):
        requests = [f"send {letter} {letter % 2} {1 - letter % 2}" for letter in range(12)]
        requests += [f"hand {letter}" for letter in range(11, -1, -1)] + ["safe", "causal", "kind", "broken"]
        requests += ["undo"] * 26 + ["deeds"] * 4
        self.assertEqual(len(requests), 58)
        found = replies(text_of(2, (CROSSING, ORDER), requests))
        self.assertEqual(found, slow_replies(2, (CROSSING, ORDER), requests))
        self.assertEqual(found[-6:], ["refused NothingDone", "refused NothingDone", "0", "0", "0", "0"])


class BadLines(unittest.TestCase):
    def refuse(self, text, number):
        with self.assertRaises(BadLine, msg=repr(text)) as caught:
            replies(text)
        self.assertEqual(caught.exception.number, number, repr(text))

    def test_the_first_line(self):
        for line in ("", "0", "1", "17", "02", "2 ", " 2", "+2", "-2", "two", "2.0", "100", "-", "2;", "x", "0x2",
                     "1_0"):
            self.refuse(line + "\n-", 0)
            self.refuse(line, 0)
            self.refuse(line + "\nbad\nbad", 0)
        for line in ("2", "3", "9", "10", "16"):
            self.assertEqual(replies(line + "\n-\ndeeds"), ["0"])

    def test_the_second_line(self):
        self.refuse("2", 1)
        for line in ("", " ", "--", "- ", "a", "b.r<a.r a.s<b.s", "a.s<b.s;a.s<b.r", "a.s<b.s; a.s<b.r", "a.s<a.r",
                     "a.s<b.s; ", "()", "rows"):
            self.refuse("2\n" + line, 1)
            self.refuse("2\n" + line + "\nbad", 1)
            self.refuse("1\n" + line, 0)

    def test_each_kind_of_line_that_is_no_request(self):
        for line in (
            "", " ", "x", "send", "send 0", "send 0 0", "send 0 0 1 1", "send 0 0 1 ", " send 0 0 1", "send  0 0 1",
            "send 0  0 1", "send -1 0 1", "send 0 -1 1", "send 0 0 01", "send 00 0 1", "send a 0 1", "Send 0 0 1",
            "send,0,0,1", "send 0 0 1.", "hand", "hand ", "hand 01", "hand 0 0", "hand -1", "hand x", "hand +1",
            "hand 1 ", "undo 1", "undo ", " undo", "undo 0", "UNDO", "rows 0", "rows ", "run 0", "runs", "way 0",
            "ways", "safe 0", "causal 1", "overtakes", "overtakes x", "overtakes 0 1", "goal", "goal 00", "goal 0 1",
            "kind 0", "kind any", "broken 0", "breaks", "breaks 0 0",
            "breaks -", "sort", "sort ", "sort -", "sort a.s<a.r",
            "sort a.s<b.s ", "sort  a.s<b.s", "sort b.r<a.r a.s<b.s", "sort a.r<b.s; b.r<a.s",
            "sort 0", "sorts a.s<b.s", "deeds 0",
            "deeds ", "twin", "wish", "on_way", "broken_by 0", "len", "refused", "2", "-", "a.s<b.s", "0s / 0r",
            "send\t0 0 1", "hand 1_0", "goal 1.0", "hand \u0663",
        ):
            self.refuse("2\n-\n" + line, 2)
            self.refuse("2\n-\nrows\nundo\n" + line, 4)
            self.refuse("2\n-\n" + line + "\nbad\n", 2)
            self.refuse("2\n-\nsend 0 0 1\n" + line + "\nsend 0 0 1", 3)
            self.refuse("2\n-;\n" + line, 1)

    def test_empty_lines_and_line_feeds(self):
        self.refuse("", 0)
        self.refuse("\n", 0)
        self.refuse("\n2\n-", 0)
        self.refuse("2\n", 1)
        self.refuse("2\n\n-", 1)
        self.refuse("2\n-\n", 2)
        self.refuse("2\n-\n\n", 2)
        self.refuse("2\n-\nrows\n", 3)
        self.refuse("2\n-\n\nrows", 2)
        self.refuse("2\n-\nrows\n\nrows", 3)
        self.refuse("2\r\n-", 0)
        self.refuse("2\n-\nrows\r\nrows", 2)

    def test_ahead_of_all_replies(self):
        self.refuse("2\n-\nhand 9\nsend 0 0 0\nundo\nnothing", 5)


if __name__ == "__main__":
    unittest.main()
