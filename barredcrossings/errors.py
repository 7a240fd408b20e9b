"""The errors of this package, each with the value that it is told of."""

from barredcrossings.forms import as_tuples


class Unfit(ValueError):
    """What is handed in does not go together."""

    def __init__(self):
        ValueError.__init__(self)


class Twice(ValueError):
    """There is such a letter already."""

    def __init__(self, twice):
        ValueError.__init__(self, f"there is a letter {twice} already")
        self.twice = as_tuples(twice)


class BadText(ValueError):
    """A text that is not so written as it must be."""

    def __init__(self):
        ValueError.__init__(self)


class BadLine(ValueError):
    """A line, counted from 0, that is not so written as it must be."""

    def __init__(self, number):
        ValueError.__init__(self, f"line {number} is not well written")
        self.number = as_tuples(number)


class NoName(LookupError):
    """A name that the pattern has not."""

    def __init__(self, name):
        LookupError.__init__(self, f"the pattern has no name {name}")
        self.name = as_tuples(name)


class NoLetter(LookupError):
    """A letter that is not there."""

    def __init__(self, letter):
        LookupError.__init__(self, f"there is no letter {letter}")
        self.letter = as_tuples(letter)


class NoHouse(LookupError):
    """A house that is not there."""

    def __init__(self, house):
        LookupError.__init__(self, f"there is no house {house}")
        self.house = as_tuples(house)


class NothingDone(LookupError):
    """There is no deed to take back."""

    def __init__(self):
        LookupError.__init__(self)
