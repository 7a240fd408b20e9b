"""What marks tell: which letters each house can know, and who waits if letters are held back."""

from barredcrossings.holding import Holding
from barredcrossings.runs import behind_in, letters_in, require_letters, time_row


def _houses(run):
    """For each END of the RUN the house at which it stands."""
    return {
        (letter, end): house for house, row in enumerate(run) for letter, end in row
    }


def known_letters(run, end):
    """The tuple of the letters that were handed in ahead of this END, ascending."""
    require_letters(run, [end[0]])
    behind = behind_in(run)
    return tuple([
        letter for letter in letters_in(run) if tuple(end) in behind[(letter, "s")]
    ])


def matrix(run, end):
    """How many of these letters go from which house to which one, as a tuple of tuples."""
    counts = [[0 for _ in run] for _ in run]
    houses = _houses(run)
    for letter in known_letters(run, end):
        counts[houses[(letter, "s")]][houses[(letter, "r")]] += 1
    return tuple([tuple(row) for row in counts])


def due_ahead(run, letter):
    """The tuple of the letters to the same house that were handed in ahead, ascending."""
    houses = _houses(run)
    return tuple([
        known for known in known_letters(run, (letter, "s"))
        if houses[(known, "r")] == houses[(letter, "r")]
    ])


def too_late(run, letter):
    """The tuple of those of them that are handed over behind the letter, ascending."""
    due = due_ahead(run, letter)
    behind = behind_in(run)
    return tuple([known for known in due if (known, "r") in behind[(letter, "r")]])


def _played(run):
    """The houses of the RUN behind all arrivals, if they hold letters back."""
    houses = _houses(run)
    holding = Holding(len(run))
    # Which row in time is taken changes nothing: what a house does goes by what
    # is ahead of it alone.
    for letter, end in time_row(run):
        if end == "s":
            holding.hand_in(letter, houses[(letter, "s")], houses[(letter, "r")])
        else:
            holding.arrive(letter)
    return holding


def handed(run):
    """The RUN that comes if houses hold letters back."""
    return tuple([tuple(row) for row in _played(run).new_rows])


def waits(run):
    """The list of the pairs of a letter held back and its number of later arrivals, ascending."""
    later = _played(run).later
    return [(letter, later[letter]) for letter in sorted(later) if later[letter] > 0]


def held(run):
    """The tuple of the letters that are not handed over at their own arrival, ascending."""
    return tuple([letter for letter, _ in waits(run)])


def most_held(run):
    """How many letters that have arrived wait at one house at once at the most."""
    return _played(run).most_waiting
