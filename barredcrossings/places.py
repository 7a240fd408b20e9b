"""Places of a PATTERN: rows of unlike members, one for each name, that have its BONDS.

Members are the letters of a RUN, or the names of another PATTERN, in ascending
order; behind gives for each end of a member a dict that has all ends behind it.
"""

from barredcrossings.patterns import names_of


def _bonds_by_name(pattern):
    """For each name the BONDS between it and names ahead of it, told by the names' places."""
    places = {name: place for place, name in enumerate(names_of(pattern))}
    bonds = [[] for _ in places]
    for one, end, other, place in pattern:
        near, far = places[one], places[other]
        bonds[max(near, far)].append((near, end, far, place))
    return bonds


def _has_bonds(row, bonds, behind):
    """Whether these BONDS hold for the members in this row."""
    return all([
        (row[far], place) in behind[(row[near], end)]
        for near, end, far, place in bonds
    ])


def _longer(row, bonds, members, behind):
    """The list of the rows with one member more for which these BONDS hold, ascending."""
    return [
        row + (member,) for member in members
        if member not in row and _has_bonds(row + (member,), bonds, behind)
    ]


def all_places(pattern, members, behind):
    """The ascending list of all rows of members that have the BONDS of the PATTERN."""
    rows = [()]
    for bonds in _bonds_by_name(pattern):
        rows = [longer for row in rows for longer in _longer(row, bonds, members, behind)]
    return rows


def _first_onward(row, steps, members, behind):
    """The least of these rows that begins with the members in row; None without one."""
    if len(row) == len(steps):
        return row
    for longer in _longer(row, steps[len(row)], members, behind):
        found = _first_onward(longer, steps, members, behind)
        if found is not None:
            return found
    return None


def first_places(pattern, members, behind):
    """The least of these rows; None if there is none."""
    return _first_onward((), _bonds_by_name(pattern), members, behind)


def are_places(pattern, members, behind, thing):
    """Whether thing is one of these rows."""
    steps = _bonds_by_name(pattern)
    if not isinstance(thing, tuple) or len(thing) != len(steps):
        return False
    # Only members can surely be put into a set, so they are asked for first.
    if not all([member in members for member in thing]) or len(set(thing)) < len(thing):
        return False
    return all([_has_bonds(thing, bonds, behind) for bonds in steps])
