"""Rings: rounds of the BONDS of a PATTERN, and at how many names they turn.

A RING is a tuple of BONDS, each from the name to which the last one led, round
to the name of the first one, through no name twice; its least BOND stands first.
"""

from heapq import heappop, heappush

from barredcrossings.forms import as_tuples
from barredcrossings.orders import ways_to
from barredcrossings.patterns import name_arrows


def _turns_between(near, far):
    """Whether a RING turns at the name between these two BONDS of it."""
    return near[3] == "r" and far[1] == "s"


def _neighbours(ring):
    """The list of the pairs of a BOND of the RING and the one that follows it."""
    return list(zip(ring, ring[1:] + ring[:1]))


def is_ring(pattern, thing):
    """Whether thing is a RING of the PATTERN."""
    if not isinstance(thing, tuple) or len(thing) < 2:
        return False
    own = as_tuples(pattern)
    if not all([member in own for member in thing]):
        return False
    if thing[0] != min(thing) or len({bond[0] for bond in thing}) < len(thing):
        return False
    return all([near[2] == far[0] for near, far in _neighbours(thing)])


def ring_names(ring):
    """The tuple of the names through which the RING goes, in its order."""
    return tuple([bond[0] for bond in ring])


def turning_names(ring):
    """The set of the names at which the RING turns."""
    return tuple(sorted([far[0] for near, far in _neighbours(ring) if _turns_between(near, far)]))


def turns(ring):
    """At how many names the RING turns."""
    return len(turning_names(ring))


def _cheapest_way_back(pattern, start, turn_price):
    """The cheapest way by BONDS from start back to it: (price, how many, BONDS).

    Of equal price it is one with fewest BONDS. None if no way leads back.
    """
    queue = [(0, 1, (start,))]
    # Where a way comes to a name, and at which end, decides all that follows.
    passed = {}
    while queue:
        price, many, way = heappop(queue)
        last = way[-1]
        if many > 1 and last == start:
            return price, many - 1, way[:-1]
        if last[2:] in passed:
            continue
        passed[last[2:]] = True
        for bond in pattern:
            if bond[0] == last[2]:
                more = turn_price if _turns_between(last, bond) else 0
                heappush(queue, (price + more, many + 1, way + (bond,)))
    return None


def _cheapest_ring(pattern, turn_price):
    """A RING with the least price of its turns, then with fewest BONDS; None without one."""
    own = as_tuples(pattern)
    best = None
    for start in own:
        found = _cheapest_way_back(own, start, turn_price)
        if found is not None and (best is None or found[:2] < best[:2]):
            best = found
    if best is None:
        return None
    # A way through a name twice is two ways back, of which one has no more
    # turns and fewer BONDS; so the best one is a RING. Its least BOND is first:
    # from any lesser one it would have been found ahead of this start.
    return best[2]


def least_ring(pattern):
    """A RING with the least number of turns, then with fewest BONDS; None without one."""
    return _cheapest_ring(pattern, 1)


def shortest_ring(pattern):
    """A RING with fewest BONDS, however often it turns; None without one."""
    return _cheapest_ring(pattern, 0)


def least_turns(pattern):
    """The least number of turns of a RING of the PATTERN; None if it has no RING."""
    ring = least_ring(pattern)
    if ring is None:
        return None
    return turns(ring)


def is_least_ring(pattern, thing):
    """Whether thing is a RING with the least number of turns, of these with fewest BONDS."""
    if not is_ring(pattern, thing):
        return False
    least = least_ring(pattern)
    return len(thing) == len(least) and turns(thing) == turns(least)


def on_rings(pattern):
    """The set of the BONDS of the PATTERN that stand in some RING of it."""
    arrows = name_arrows(pattern)
    return tuple([bond for bond in as_tuples(pattern) if bond[2] in ways_to(arrows, bond[0])])


def _rings_onward(pattern, way):
    """The list of the RINGS that begin with these BONDS, ascending."""
    found = []
    names = ring_names(way)
    for bond in pattern:
        if bond[0] != way[-1][2] or bond < way[0]:
            continue
        if bond[2] == names[0]:
            found.append(way + (bond,))
        elif bond[2] not in names:
            found.extend(_rings_onward(pattern, way + (bond,)))
    return found


def rings(pattern):
    """The ascending list of all RINGS of the PATTERN."""
    own = as_tuples(pattern)
    return [ring for start in own for ring in _rings_onward(own, (start,))]


def how_many_rings(pattern, many):
    """How many RINGS of the PATTERN turn at just so many names."""
    return len([ring for ring in rings(pattern) if turns(ring) == many])
