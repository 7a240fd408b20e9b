"""Sorts: what it costs that a PATTERN is never seen.

The SORTS are "itself", "marks", "asks" and "never", the cheaper ones first.
"""

from barredcrossings.forms import as_tuples
from barredcrossings.patterns import bonds_between, is_pattern, names_of
from barredcrossings.rings import least_ring, least_turns, shortest_ring

SORTS = ("itself", "marks", "asks", "never")

# For each kind of RUNS the dearest SORT of which no PATTERN is in one of them.
DEAREST_KEPT = {"any": "itself", "causal": "marks", "one by one": "asks"}


def sort_of(pattern):
    """The SORT of the PATTERN."""
    least = least_turns(pattern)
    if least is None:
        return "never"
    return SORTS[min(least, 2)]


def is_dearer(one, other):
    """Whether the SORT one stands behind the SORT other."""
    return SORTS.index(one) > SORTS.index(other)


def in_some(pattern, kind):
    """Whether the PATTERN is in some RUN of this kind."""
    return is_dearer(sort_of(pattern), DEAREST_KEPT[kind])


def _sort_without(pattern, bond):
    """The SORT of the PATTERN without this BOND; None if no BOND is left."""
    rest = [own for own in pattern if own != bond]
    if not rest:
        return None
    return sort_of(rest)


def sorts_without(pattern):
    """The list of the pairs of a BOND and the SORT of the PATTERN without it."""
    own = as_tuples(pattern)
    return [(bond, _sort_without(own, bond)) for bond in own]


def loose_bonds(pattern):
    """The set of the BONDS without each of which the PATTERN has the same SORT."""
    sort = sort_of(pattern)
    return tuple([bond for bond, rest in sorts_without(pattern) if rest == sort])


def mending_bonds(pattern, sort):
    """The list of the BONDS with each of which the PATTERN is of this SORT or a cheaper one."""
    own = as_tuples(pattern)
    return [
        bond for bond in bonds_between(names_of(own))
        if bond not in own and not is_dearer(sort_of(sorted(own + (bond,))), sort)
    ]


def core(pattern):
    """A PATTERN of as few of the BONDS as can be that has the same SORT."""
    own = as_tuples(pattern)
    sort = sort_of(own)
    if sort == "never":
        return own[:1]
    # Where no RING turns less than twice, any RING is of the SORT "asks", also
    # one that turns more often than another one and is shorter.
    if sort == "asks":
        return tuple(sorted(shortest_ring(own)))
    return tuple(sorted(least_ring(own)))


def core_size(pattern):
    """Of how few of its BONDS a PATTERN of the same SORT can be made."""
    return len(core(pattern))


def is_core(pattern, thing):
    """Whether thing is a PATTERN of as few of the BONDS as can be that has the same SORT."""
    if not is_pattern(thing) or len(thing) != core_size(pattern):
        return False
    own = as_tuples(pattern)
    return all([bond in own for bond in thing]) and sort_of(thing) == sort_of(own)
