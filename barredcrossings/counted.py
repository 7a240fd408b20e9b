"""Patterns counted: numbered ones, how many there are of each SORT, and which are alike.

many tells of the first NAMES, a, b and so on; PATTERNS of so many BONDS between
these are numbered from 0, ascending.
"""

from math import comb

from barredcrossings.forms import as_tuples
from barredcrossings.patterns import NAMES, bonds_between, names_of, renamed
from barredcrossings.sorts import SORTS, sort_of


def all_bonds(many):
    """The ascending tuple of all BONDS between the first NAMES."""
    return tuple(bonds_between(NAMES[:many]))


def how_many_patterns(many, bonds):
    """How many PATTERNS of so many BONDS there are."""
    return comb(len(all_bonds(many)), bonds)


def pattern_at(many, bonds, number):
    """The PATTERN with this number; None if there is none."""
    if not 0 <= number < how_many_patterns(many, bonds):
        return None
    own = all_bonds(many)
    found = []
    left = number
    for place, bond in enumerate(own):
        if len(found) == bonds:
            break
        # So many go on with this BOND, and all others that begin alike stand behind them.
        with_it = comb(len(own) - 1 - place, bonds - 1 - len(found))
        if left < with_it:
            found.append(bond)
        else:
            left -= with_it
    return tuple(found)


def number_of_pattern(many, pattern):
    """The number of this PATTERN; None if it has a name that is none of these NAMES."""
    own = all_bonds(many)
    places = {bond: place for place, bond in enumerate(own)}
    number = 0
    next_place = 0
    for at, bond in enumerate(as_tuples(pattern)):
        if bond not in places:
            return None
        for lesser in range(next_place, places[bond]):
            number += comb(len(own) - 1 - lesser, len(pattern) - 1 - at)
        next_place = places[bond] + 1
    return number


def _patterns(many, bonds):
    """The ascending list of all PATTERNS of so many BONDS."""
    return [
        pattern_at(many, bonds, number) for number in range(how_many_patterns(many, bonds))
    ]


def patterns_of_sort(many, bonds, sort):
    """The ascending list of the PATTERNS of so many BONDS with this SORT."""
    return [pattern for pattern in _patterns(many, bonds) if sort_of(pattern) == sort]


def sorts_counted(many, bonds):
    """How many PATTERNS of so many BONDS have each SORT, the cheaper SORTS first."""
    found = [sort_of(pattern) for pattern in _patterns(many, bonds)]
    return tuple([found.count(sort) for sort in SORTS])


def _rows_of(names):
    """The list of all tuples of these names, each once."""
    rows = [()]
    for _ in names:
        rows = [row + (name,) for row in rows for name in names if name not in row]
    return rows


def least_renamed(pattern):
    """The least of the PATTERNS that are alike to it and have the first NAMES."""
    names = names_of(pattern)
    return min([
        renamed(pattern, list(zip(names, row))) for row in _rows_of(NAMES[:len(names)])
    ])


def are_alike(one, other):
    """Whether one of the PATTERNS is the other one with other names."""
    return least_renamed(one) == least_renamed(other)


def unlike_patterns(many, bonds):
    """The ascending list of one PATTERN of so many BONDS of each lot of alike ones."""
    return [pattern for pattern in _patterns(many, bonds) if least_renamed(pattern) == pattern]
