"""A desk: a Talk by lines of text, each a request, and the replies to them."""

from barredcrossings.errors import BadLine, BadText, NoHouse, NoLetter, NothingDone, Twice, Unfit
from barredcrossings.sorts import sort_of
from barredcrossings.talk import Talk
from barredcrossings.texts import read_number, read_pattern, read_wish, run_text, wish_text


def _letters_text(letters):
    """The letters with blanks between, - for none."""
    if not letters:
        return "-"
    return " ".join([str(letter) for letter in letters])


def _send(talk, told):
    """The letter is handed in at the first house, for the second one."""
    letter, house, to = told
    talk.send(letter, house, to)
    return run_text(talk.rows())


def _hand(talk, told):
    """The letter is handed over."""
    talk.hand(told[0])
    return run_text(talk.rows())


def _undo(talk, _):
    """The last deed is taken back."""
    talk.undo()
    return run_text(talk.rows())


def _rows(talk, _):
    """The rows so far."""
    return run_text(talk.rows())


def _run(talk, _):
    """The RUN of the letters that are handed over."""
    return run_text(talk.run())


def _way(talk, _):
    """The letters on the way."""
    return _letters_text(talk.on_way())


def _safe(talk, _):
    """The letters that break nothing more."""
    return _letters_text(talk.safe())


def _causal(talk, _):
    """The letters that overtake none."""
    return _letters_text(talk.causal())


def _overtakes(talk, told):
    """The letters that this one would overtake."""
    return _letters_text(talk.overtakes(told[0]))


def _goal(talk, told):
    """The house to which the letter goes, or went."""
    return str(talk.goal(told[0]))


def _kind(talk, _):
    """The kind of the RUN."""
    return talk.kind()


def _broken(talk, _):
    """The PATTERNS that are in the RUN."""
    return wish_text(talk.broken())


def _breaks(talk, told):
    """The PATTERNS that come into the RUN with this letter."""
    return wish_text(talk.broken_by(told[0]))


def _sort(_, told):
    """The SORT of the PATTERN."""
    return sort_of(told)


def _deeds(talk, _):
    """How many deeds can be taken back."""
    return str(len(talk))


# For each word how many numbers stand behind it; behind sort stands a PATTERN.
NUMBERS = {
    "send": 3, "hand": 1, "undo": 0, "rows": 0, "run": 0, "way": 0, "safe": 0, "causal": 0,
    "overtakes": 1, "goal": 1, "kind": 0, "broken": 0, "breaks": 1, "deeds": 0,
}

ANSWERS = {
    "send": _send, "hand": _hand, "undo": _undo, "rows": _rows, "run": _run, "way": _way,
    "safe": _safe, "causal": _causal, "overtakes": _overtakes, "goal": _goal, "kind": _kind,
    "broken": _broken, "breaks": _breaks, "sort": _sort, "deeds": _deeds,
}


def _houses_in(line):
    """The number of houses in the line."""
    houses = read_number(line)
    if houses is None or not 2 <= houses <= 16:
        raise BadText()
    return houses


def _request_in(line):
    """The word of the request in the line, and what is told behind it."""
    word, _, rest = line.partition(" ")
    if word == "sort":
        return word, read_pattern(rest)
    numbers = [read_number(part) for part in line.split(" ")[1:]]
    if NUMBERS.get(word) != len(numbers) or None in numbers:
        raise BadText()
    return word, numbers


def _read_line(number, line):
    """What stands in the line with this number: houses, a WISH, or a request."""
    try:
        if number == 0:
            return _houses_in(line)
        if number == 1:
            return read_wish(line)
        return _request_in(line)
    except BadText:
        raise BadLine(number) from None


def _reply(talk, word, told):
    """The reply to one request."""
    answer = ANSWERS[word]
    try:
        return answer(talk, told)
    except Twice as again:
        return f"refused Twice {again.twice}"
    except NoHouse as nowhere:
        return f"refused NoHouse {nowhere.house}"
    except NoLetter as nothing:
        return f"refused NoLetter {nothing.letter}"
    except Unfit:
        return "refused Unfit"
    except NothingDone:
        return "refused NothingDone"


def replies(text):
    """The list of the replies to the requests in the lines of the text."""
    read = [_read_line(number, line) for number, line in enumerate(text.split("\n"))]
    if len(read) < 2:
        raise BadLine(1)
    talk = Talk(read[0], read[1])
    return [_reply(talk, word, told) for word, told in read[2:]]
