"""Patterns in runs: where they are, and the letters without which they would not be there."""

from barredcrossings.forms import as_tuples, is_number
from barredcrossings.patterns import NAMES, bonds_between
from barredcrossings.places import all_places, are_places, first_places
from barredcrossings.runs import behind_in, letters_in, require_letters


def placings(pattern, run):
    """The ascending list of all placings of the PATTERN in the RUN."""
    return all_places(pattern, letters_in(run), behind_in(run))


def how_many_placings(pattern, run):
    """How many placings there are."""
    return len(placings(pattern, run))


def first_placing(pattern, run):
    """The least placing; None if there is none."""
    return first_places(pattern, letters_in(run), behind_in(run))


def is_in(pattern, run):
    """Whether the PATTERN is in the RUN."""
    return first_placing(pattern, run) is not None


def is_placing(pattern, run, thing):
    """Whether thing is a placing of the PATTERN in the RUN."""
    # True and False would be found among letters 1 and 0.
    if not isinstance(thing, tuple) or not all([is_number(letter) for letter in thing]):
        return False
    return are_places(pattern, letters_in(run), behind_in(run), thing)


def broken(run, wish):
    """The tuple of the PATTERNS of the WISH that are in the RUN, ascending."""
    letters, behind = letters_in(run), behind_in(run)
    return tuple([
        pattern for pattern in as_tuples(wish)
        if first_places(pattern, letters, behind) is not None
    ])


def keeps(run, wish):
    """Whether none of the PATTERNS of the WISH is in the RUN."""
    return len(broken(run, wish)) == 0


def pattern_of(run, letters):
    """The PATTERN of all BONDS that are so for these letters, named a, b and so on.

    None if there is none.
    """
    require_letters(run, letters)
    behind = behind_in(run)
    named = {name: letter for name, letter in zip(NAMES, letters)}
    bonds = [
        (one, end, other, place)
        for one, end, other, place in bonds_between(list(named))
        if (named[other], place) in behind[(named[one], end)]
    ]
    if not bonds:
        return None
    return tuple(bonds)


def cut(run, letter):
    """The RUN without the two ENDS of this letter."""
    require_letters(run, [letter])
    return tuple([
        tuple([end for end in row if end[0] != letter]) for row in as_tuples(run)
    ])


def guilty(run, wish):
    """The tuple of the letters without which, each by itself, the RUN keeps the WISH.

    () if the RUN keeps it anyway.
    """
    if keeps(run, wish):
        return ()
    return tuple([letter for letter in letters_in(run) if keeps(cut(run, letter), wish)])
