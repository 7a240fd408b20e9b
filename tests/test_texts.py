"""texts.py [14]."""

import random
import unittest

from barredcrossings.errors import BadLine, BadText
from barredcrossings.patterns import is_pattern, is_wish
from barredcrossings.runs import is_run
from barredcrossings.texts import (
    pattern_text, read_pattern, read_run, read_sheet, read_wish, run_text, sheet_text, wish_text,
)
from tests import oracles
from tests.samples import (
    ANSWER, BOTH, CALM, CROSSING, EVERY_BOND, GREAT, GREAT_ASKS, GREAT_ROUND, ORDER, RUSH, STUCK, SWAP, THREE,
    free_patterns, great_run, ring_run, some_runs,
)

SIGNS = "".join(chr(code) for code in range(32, 127) if chr(code) != "%")
PATTERNS = (ORDER, CROSSING, ANSWER, STUCK, BOTH, THREE, GREAT, GREAT_ASKS, GREAT_ROUND)


def slow_pattern_text(pattern):
    return " ".join(one + "." + end + "<" + other + "." + place for one, end, other, place in pattern)


def slow_wish_text(wish):
    return "; ".join(slow_pattern_text(pattern) for pattern in wish) if wish else "-"


def slow_run_text(run):
    return " / ".join(" ".join(str(letter) + end for letter, end in row) if row else "-" for row in run)


def changed(text):
    """The text with one sign less, one more, and another one at each place."""
    for at in range(len(text) + 1):
        for sign in SIGNS + "\n":
            yield text[:at] + sign + text[at:]
            if at < len(text) and text[at] != sign:
                yield text[:at] + sign + text[at + 1:]
        if at < len(text):
            yield text[:at] + text[at + 1:]
            if at and text[at - 1] != text[at]:
                yield text[:at - 1] + text[at] + text[at - 1] + text[at + 1:]


class Examples(unittest.TestCase):
    def test_examples(self):
        self.assertEqual(pattern_text(ORDER), "a.s<b.s b.r<a.r")
        self.assertEqual(wish_text((CROSSING, ORDER)), "a.s<b.r b.s<a.r; a.s<b.s b.r<a.r")
        self.assertEqual(wish_text(()), "-")
        self.assertEqual(
            run_text((((0, "s"), (12, "s")), (), ((12, "r"), (0, "r")))), "0s 12s / - / 12r 0r")
        self.assertEqual(read_pattern("a.s<b.s b.r<a.r"), ORDER)
        self.assertEqual(read_wish("a.s<b.r b.s<a.r; a.s<b.s b.r<a.r"), (CROSSING, ORDER))
        self.assertEqual(read_wish("-"), ())
        self.assertEqual(read_run("0s / 0r"), (((0, "s"),), ((0, "r"),)))
        self.assertEqual(read_run("-"), ((),))
        self.assertEqual(
            sheet_text((("cross", CROSSING), ("order", ORDER))),
            "cross a.s<b.r b.s<a.r\norder a.s<b.s b.r<a.r")
        self.assertEqual(
            read_sheet("x a.r<b.s\ny b.r<a.s"),
            (("x", (("a", "r", "b", "s"),)), ("y", (("b", "r", "a", "s"),))))
        for call, text in (
            (read_pattern, "b.r<a.r a.s<b.s"), (read_pattern, "a.s<a.r"), (read_run, "0s 0r"), (read_run, "0s / 00r"),
        ):
            with self.assertRaises(BadText):
                call(text)
        with self.assertRaises(BadLine) as caught:
            read_sheet("x a.r<b.s\nx a.r<b.s")
        self.assertEqual(caught.exception.number, 1)


class ThereAndBack(unittest.TestCase):
    def test_patterns(self):
        for pattern in [*PATTERNS, *free_patterns(1, 100, 2, 8), EVERY_BOND]:
            text = pattern_text(pattern)
            self.assertEqual(text, slow_pattern_text(pattern))
            self.assertEqual(read_pattern(text), pattern)
            self.assertEqual(pattern_text(read_pattern(text)), text)

    def test_wishes(self):
        dice = random.Random(2)
        drawn = [*PATTERNS, *free_patterns(3, 100, 2, 8, 5)]
        for many in (0, 1, 2, 3, 6, 20):
            for _ in range(5):
                wish = tuple(sorted(set(dice.sample(drawn, many))))
                text = wish_text(wish)
                self.assertEqual(text, slow_wish_text(wish))
                self.assertEqual(read_wish(text), wish)

    def test_runs(self):
        more = [((),), ((), ()), (((0, "s"),), ((0, "r"),)), (((10 ** 30, "s"),), (), ((10 ** 30, "r"),))]
        more.append(tuple(((letter, end),) for letter in range(40) for end in "sr"))
        for run in [RUSH, SWAP, CALM, great_run(), ring_run(9), *more, *some_runs(4, 60)]:
            text = run_text(run)
            self.assertEqual(text, slow_run_text(run))
            self.assertEqual(read_run(text), run)

    def test_sheets(self):
        dice = random.Random(5)
        drawn = [*PATTERNS, *free_patterns(6, 60, 2, 8, 5)]
        for many in (1, 2, 3, 8, 60):
            titles = {"".join(dice.choices("abcxyz", k=dice.randint(1, 8))) for _ in range(many)}
            sheet = tuple((title, dice.choice(drawn)) for title in sorted(titles))
            text = sheet_text(sheet)
            self.assertEqual(text, "\n".join(title + " " + slow_pattern_text(own) for title, own in sheet))
            self.assertEqual(read_sheet(text), sheet)

    def test_lists_for_tuples(self):
        self.assertEqual(pattern_text(oracles.as_lists(ORDER)), "a.s<b.s b.r<a.r")
        self.assertEqual(wish_text(oracles.as_lists((CROSSING, ORDER))), slow_wish_text((CROSSING, ORDER)))
        self.assertEqual(wish_text([]), "-")
        self.assertEqual(run_text(oracles.as_lists(SWAP)), slow_run_text(SWAP))
        self.assertEqual(run_text([[]]), "-")
        self.assertEqual(sheet_text([["x", oracles.as_lists(ANSWER)]]), "x a.r<b.s")


class OneSignElse(unittest.TestCase):
    """What is read has just this text; any other text is refused."""

    def check(self, text, read, write, is_thing):
        good = 0
        for other in changed(text):
            try:
                found = read(other)
            except BadText:
                continue
            self.assertIs(is_thing(found), True, other)
            self.assertEqual(write(found), other)
            good += 1
        return good

    def test_patterns(self):
        good = 0
        for pattern in (ORDER, ANSWER, BOTH, (("g", "s", "h", "r"),)):
            good += self.check(slow_pattern_text(pattern), read_pattern, slow_pattern_text, is_pattern)
        self.assertGreater(good, 20)

    def test_wishes(self):
        good = 0
        for wish in ((), (ANSWER,), (CROSSING, ORDER), (ANSWER, (("b", "r", "a", "s"),))):
            good += self.check(slow_wish_text(wish), read_wish, slow_wish_text, is_wish)
        self.assertGreater(good, 20)

    def test_runs(self):
        # A letter has two ENDS, each in one place: no one sign makes another RUN of these.
        for run in (RUSH, CALM, ((),), (((10, "s"),), (), ((10, "r"),)), ((), ())):
            self.assertEqual(self.check(slow_run_text(run), read_run, slow_run_text, is_run), 0)

    def test_sheets(self):
        good = bad = 0
        text = "abc a.s<b.r b.s<a.r\nb a.r<b.s\nbaaaaaaa a.r<b.s"
        for other in changed(text):
            try:
                found = read_sheet(other)
            except BadLine as caught:
                self.assertEqual(caught.number, self.first_bad_line(other), other)
                bad += 1
            else:
                self.assertIsNone(self.first_bad_line(other), other)
                self.assertEqual(sheet_text(found), other)
                good += 1
        self.assertGreater(min(good, bad), 100)

    def first_bad_line(self, text):
        """The number of the first line that is not well written, by the words of [14]."""
        past = ""
        for number, line in enumerate(text.split("\n")):
            title, blank, rest = line.partition(" ")
            try:
                fit = slow_pattern_text(read_pattern(rest)) == rest
            except BadText:
                fit = False
            small = title != "" and len(title) < 9 and set(title) <= set("abcdefghijklmnopqrstuvwxyz")
            if not (blank and fit and small and title > past):
                return number
            past = title
        return None


class BadTexts(unittest.TestCase):
    def refuse(self, call, texts):
        for text in texts:
            with self.assertRaises(BadText, msg=repr(text)):
                call(text)

    def test_patterns(self):
        self.refuse(read_pattern, (
            "", " ", "-", ";", "\n", "a", "a.s", "a.s<", "a.s<b", "a.s<b.", "<", "a.s<b.s ", " a.s<b.s", "a.s<b.s\n",
            "\na.s<b.s", "a.s<b.s  b.r<a.r", "a.s<b.s, b.r<a.r", "a.s<b.s; b.r<a.r", "a.s<b.s a.s<b.s",
            "b.r<a.r a.s<b.s", "a.s<a.r", "a.s < b.s", "A.s<b.s", "a.S<b.s", "a.t<b.s", "i.s<a.s", "a.s<i.r",
            "a,s<b.s", "a.s>b.s", "a.s<b,s", "a.s<b.sb.r<a.r", "a.s<b.s\nb.r<a.r", "a.s<b.s b.r<a.r c", "0s / 0r",
            "a.s=b.s", "a.<sb.s", "(a.s<b.s)", "a.s<b.s-", "'a.s<b.s'", "1.s<b.s", ".s<b.sa", "a.s<b.s\tb.r<a.r",
        ))

    def test_wishes(self):
        self.refuse(read_wish, (
            "", " ", "--", "- ", " -", "-\n", "-; a.s<b.s", "a.s<b.s; -", "a.s<b.s;", "a.s<b.s; ", ";", "; ",
            "a.s<b.s;a.s<b.r", "a.s<b.r ; a.s<b.s", "a.s<b.r;  a.s<b.s", "a.s<b.s; a.s<b.r", "a.s<b.s; a.s<b.s",
            "a.s<b.r, a.s<b.s", "a.s<b.r\na.s<b.s", "a.s<a.r", "a.s<b.r; a.s<b.s; ", "a.s<b.r; ; a.s<b.s", "x",
            "a.s<b.r; a.s<b.s; a.s<b.s", "a.s<b.s a.s<b.r", "a.r<b.s; b.r<a.s; a.s<b.s", "()",
        ))
        self.assertEqual(read_wish("a.r<b.s; a.s<b.s; b.r<a.s"), ((EVERY_BOND[1],), (("a", "s", "b", "s"),),
                                                                  (("b", "r", "a", "s"),)))

    def test_runs(self):
        self.refuse(read_run, (
            "", " ", "/", " / ", "- /", "/ -", "-/-", "--", "- - ", "- -", "0s", "0r", "0s / ", "0s/0r", "0s /0r",
            "0s/ 0r", "0s  / 0r", "0s /  0r", " 0s / 0r", "0s / 0r ", "0s / 0r\n", "0s / 0r / ", "0s / 1r", "0s 0r",
            "0s / 0r / 0r", "0s 0s / 0r", "0s / 0r 0r", "0s / 0s", "0S / 0R", "00s / 00r", "0s / 00r", "01s / 01r",
            "s / r", "-1s / -1r", "+1s / +1r", "1 s / 1 r", "0x1s / 0x1r", "1_0s / 1_0r", "1.0s / 1.0r",
            "0s 1r / 1s 0r 2r", "0r 1s / 1r 0s", "0s - / 0r", "- 0s / 0r", "0s / 0r -", "0s / 0t", "0s, 1s / 0r 1r",
            "0s\n0r", "0s / / 0r", "0s / - 0r", "a.s<b.s", "0s/-/0r", "() / ()", "0s / 0r;", "0sr / 0r",
        ))
        self.assertEqual(read_run("- / 3s / - / 3r"), ((), ((3, "s"),), (), ((3, "r"),)))

    def test_numbers_with_needless_zeros(self):
        self.assertEqual(read_run("0s 10s 100s / 100r 10r 0r"), (
            ((0, "s"), (10, "s"), (100, "s")), ((100, "r"), (10, "r"), (0, "r"))))
        self.refuse(read_run, ("0s 010s / 010r 0r", "0s 10s / 010r 0r", "000s / 000r", "1s / 01r", "0010s / 0010r"))

    def test_digits_of_other_scripts(self):
        for digit in ("\u0663", "\u00b2", "\uff11"):
            self.refuse(read_run, (f"{digit}s / {digit}r", f"1{digit}s / 1{digit}r"))

    def test_great_numbers(self):
        digits = "9" * 190
        self.assertEqual(read_run(f"{digits}s / {digits}r"), (((10 ** 190 - 1, "s"),), ((10 ** 190 - 1, "r"),)))

    def test_a_pattern_that_is_in_no_run_has_a_text_a_round_of_ends_is_no_run(self):
        self.assertEqual(read_pattern("a.s<b.s b.s<a.s"), STUCK)
        self.refuse(read_run, ("0r 1s / 1r 0s", "0r 1s / 1r 2s / 2r 0s"))


class Sheets(unittest.TestCase):
    def test_the_first_bad_line(self):
        for text, number in (
            ("", 0), (" ", 0), ("x", 0), ("x ", 0), ("\n", 0), (" a.r<b.s", 0), ("x a.r<b.s\n", 1), ("\nx a.r<b.s", 0),
            ("x a.r<b.s\n\ny a.r<b.s", 1), ("x a.r<b.s\ny a.r<b.s\n", 2), ("x a.r<b.s\nw a.r<b.s", 1),
            ("x a.r<b.s\nx b.r<a.s", 1), ("x a.r<b.s\ny a.r<b.s\nxz a.r<b.s", 2), ("x  a.r<b.s", 0), (" x a.r<b.s", 0),
            ("x a.r<b.s ", 0), ("X a.r<b.s", 0), ("x1 a.r<b.s", 0), ("abcdefghi a.r<b.s", 0), ("x-y a.r<b.s", 0),
            ("x y a.r<b.s", 0), ("x a.r<b.s; b.r<a.s", 0), ("x -", 0), ("x\ta.r<b.s", 0), ("a.r<b.s", 0),
            ("x b.r<a.s a.r<b.s", 0), ("x a.r<b.s\ny b.s<b.r", 1), ("b a.r<b.s\na x\nc y", 1),
            ("x a.r<b.s\nx", 1), ("b a.r<b.s\nc bad\na a.r<b.s", 1), ("x a.r<b.s\r\ny a.r<b.s", 0),
            ("\n\n", 0), ("a a.r<b.s\nb a.r<b.s\nc a.r<b.s\nd a.r<b.s\nb a.r<b.s\nzz", 4),
        ):
            with self.assertRaises(BadLine, msg=repr(text)) as caught:
                read_sheet(text)
            self.assertEqual(caught.exception.number, number, repr(text))

    def test_titles(self):
        for title in ("a", "z", "abcdefgh", "zzzzzzzz", "aaaaaaaa"):
            self.assertEqual(read_sheet(f"{title} a.r<b.s"), ((title, ANSWER),))
        text = "\n".join(f"{title} a.r<b.s" for title in ("a", "aa", "ab", "abcdefgh", "b", "ba", "z"))
        self.assertEqual([title for title, _ in read_sheet(text)], ["a", "aa", "ab", "abcdefgh", "b", "ba", "z"])

    def test_the_same_pattern_twice(self):
        self.assertEqual(read_sheet("x a.r<b.s\ny a.r<b.s"), (("x", ANSWER), ("y", ANSWER)))
        self.assertEqual(read_sheet("a b.r<a.s\nb a.r<b.s"), (("a", (("b", "r", "a", "s"),)), ("b", ANSWER)))


if __name__ == "__main__":
    unittest.main()
