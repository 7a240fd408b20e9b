"""Texts: PATTERNS, WISHES, RUNS and sheets as they are written, and read again."""

from barredcrossings.errors import BadLine, BadText
from barredcrossings.patterns import is_pattern, is_wish
from barredcrossings.runs import is_run

DIGITS = "0123456789"
SMALL_LETTERS = "abcdefghijklmnopqrstuvwxyz"


def read_number(text):
    """The number from 0 that is so written; None if there is none."""
    if text == "" or not all([sign in DIGITS for sign in text]):
        return None
    if text[0] == "0" and text != "0":
        return None
    return int(text)


def pattern_text(pattern):
    """The text of the PATTERN."""
    return " ".join([f"{one}.{end}<{other}.{place}" for one, end, other, place in pattern])


def _bond_in(word):
    """What would be the BOND so written; None if the signs between are others."""
    if len(word) != 7 or (word[1], word[3], word[5]) != (".", "<", "."):
        return None
    return word[0], word[2], word[4], word[6]


def read_pattern(text):
    """The PATTERN with this text."""
    pattern = tuple([_bond_in(word) for word in text.split(" ")])
    if not is_pattern(pattern):
        raise BadText()
    return pattern


def wish_text(wish):
    """The text of the WISH."""
    if not wish:
        return "-"
    return "; ".join([pattern_text(pattern) for pattern in wish])


def read_wish(text):
    """The WISH with this text."""
    if text == "-":
        return ()
    wish = tuple([read_pattern(part) for part in text.split("; ")])
    if not is_wish(wish):
        raise BadText()
    return wish


def _row_text(row):
    """The text of a row."""
    if not row:
        return "-"
    return " ".join([f"{letter}{end}" for letter, end in row])


def run_text(run):
    """The text of the RUN, or of other rows of ENDS."""
    return " / ".join([_row_text(row) for row in run])


def _row_in(text):
    """What would be the row so written."""
    if text == "-":
        return ()
    return tuple([(read_number(word[:-1]), word[-1:]) for word in text.split(" ")])


def read_run(text):
    """The RUN with this text."""
    run = tuple([_row_in(part) for part in text.split(" / ")])
    # A letter that is not so written as a number is None, which is in no RUN.
    if not is_run(run):
        raise BadText()
    return run


def sheet_text(sheet):
    """The text of the sheet: a line for each pair of a TITLE and a PATTERN."""
    return "\n".join([f"{title} {pattern_text(pattern)}" for title, pattern in sheet])


def _is_title(text):
    """Whether text is a TITLE."""
    return 1 <= len(text) <= 8 and all([sign in SMALL_LETTERS for sign in text])


def _pair_in(line):
    """The pair of a TITLE and a PATTERN in the line; None if it is not so written."""
    title, _, rest = line.partition(" ")
    if not _is_title(title):
        return None
    try:
        return title, read_pattern(rest)
    except BadText:
        return None


def read_sheet(text):
    """The tuple of the pairs of a TITLE and a PATTERN in the lines of the text."""
    pairs = []
    for number, line in enumerate(text.split("\n")):
        pair = _pair_in(line)
        if pair is None or (pairs and pair[0] <= pairs[-1][0]):
            raise BadLine(number)
        pairs.append(pair)
    return tuple(pairs)
