"""Patterns: what they are, what follows from them, and when two are the same.

A BOND is (one, end, other, place): this end of one is ahead of that place of
other. A PATTERN is an ascending tuple of BONDS, a WISH one of PATTERNS.
"""

from barredcrossings.errors import NoName, Unfit
from barredcrossings.orders import all_behind, least_row, nearest_in

NAMES = ("a", "b", "c", "d", "e", "f", "g", "h")
ENDS = ("s", "r")


def is_bond(thing):
    """Whether thing is a BOND."""
    if not isinstance(thing, tuple) or len(thing) != 4:
        return False
    one, end, other, place = thing
    if one not in NAMES or other not in NAMES or one == other:
        return False
    return end in ENDS and place in ENDS


def _is_ascending(members):
    """Whether each of the members is less than the next one."""
    return all([low < high for low, high in zip(members, members[1:])])


def is_pattern(thing):
    """Whether thing is a PATTERN, of however many BONDS."""
    if not isinstance(thing, tuple) or len(thing) == 0:
        return False
    # Only BONDS can be compared without fail, so they are asked for first.
    return all([is_bond(member) for member in thing]) and _is_ascending(thing)


def is_wish(thing):
    """Whether thing is a WISH, of however many PATTERNS."""
    if not isinstance(thing, tuple):
        return False
    return all([is_pattern(member) for member in thing]) and _is_ascending(thing)


def names_of(pattern):
    """The set of the names of the PATTERN."""
    names = [bond[0] for bond in pattern] + [bond[2] for bond in pattern]
    return tuple(sorted(set(names)))


def _require_names(pattern, names):
    """Raise NoName for the first of the names that the PATTERN has not."""
    own = names_of(pattern)
    for name in names:
        if name not in own:
            raise NoName(name)


def _with_names(pattern, new_names):
    """The BONDS with new names, ascending; new_names has one for each name."""
    return tuple(sorted({
        (new_names[one], end, new_names[other], place)
        for one, end, other, place in pattern
    }))


def renamed(pattern, pairs):
    """The PATTERN with new names, all at once; pairs are (name, new)."""
    _require_names(pattern, [name for name, _ in pairs])
    new_names = {name: name for name in names_of(pattern)}
    for name, new in pairs:
        new_names[name] = new
    if len(set(list(new_names.values()))) < len(new_names):
        raise Unfit()
    return _with_names(pattern, new_names)


def turned_about(pattern):
    """The PATTERN of what holds if time runs the other way about."""
    turned = {"s": "r", "r": "s"}
    return tuple(sorted([
        (other, turned[place], one, turned[end])
        for one, end, other, place in pattern
    ]))


def merged(pattern, one, other):
    """The PATTERN for the same letter at both names; None if there is none."""
    _require_names(pattern, [one, other])
    new_names = {name: name for name in names_of(pattern)}
    new_names[other] = one
    bonds = []
    for bond in _with_names(pattern, new_names):
        if bond[0] != bond[2]:
            bonds.append(bond)
        elif (bond[1], bond[3]) != ("s", "r"):
            return None
    if not bonds:
        return None
    return tuple(bonds)


def bonds_between(names):
    """The list of all BONDS between these names, ascending."""
    return sorted([
        (one, end, other, place)
        for one in names for other in names if one != other
        for end in ENDS for place in ENDS
    ])


def name_arrows(pattern):
    """The arrows between names: one for each BOND, from its one to its other."""
    arrows = {name: [] for name in names_of(pattern)}
    for bond in pattern:
        arrows[bond[0]].append(bond[2])
    return arrows


def end_arrows(pattern):
    """The arrows between ends of names: one for each BOND, and s to r."""
    arrows = {}
    for name in names_of(pattern):
        arrows[(name, "s")] = [(name, "r")]
        arrows[(name, "r")] = []
    for one, end, other, place in pattern:
        arrows[(one, end)].append((other, place))
    return arrows


def ends_behind(pattern):
    """For each end of a name a dict that has all ends told behind it.

    Raises Unfit if the PATTERN is in no RUN.
    """
    arrows = end_arrows(pattern)
    row = least_row(arrows)
    if row is None:
        raise Unfit()
    return all_behind(arrows, row)


def closure(pattern):
    """The PATTERN of all BONDS that follow."""
    behind = ends_behind(pattern)
    return tuple(sorted([
        near + far
        for near in behind for far in behind[near] if near[0] != far[0]
    ]))


def follows(pattern, bond):
    """Whether this BOND follows from the PATTERN."""
    one, end, other, place = bond
    _require_names(pattern, [one, other])
    return (other, place) in ends_behind(pattern)[(one, end)]


def fewest_bonds(pattern):
    """The PATTERN with fewest BONDS from which the same BONDS follow."""
    # What leads by way of a third end follows from others. Nothing leads to
    # the rest but itself, so each PATTERN for this order must have it.
    return tuple([
        near + far for near, far in nearest_in(ends_behind(pattern)) if near[0] != far[0]
    ])


def same_runs(one, other):
    """Whether both PATTERNS have the same names and always the same placings."""
    return closure(one) == closure(other)
