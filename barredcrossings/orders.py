"""Orders that arrows make.

Arrows are a dict that gives each member the list of those that it has an
arrow to. All of its members can be compared with one another.
"""

from heapq import heappop, heappush


def least_row(arrows):
    """The least list of all members in which every arrow goes onward.

    None if there is none, because some arrows go in a round.
    """
    waiting = {member: 0 for member in arrows}
    for member in arrows:
        for goal in arrows[member]:
            waiting[goal] += 1
    # A sorted list is a heap already.
    ready = sorted([member for member in arrows if waiting[member] == 0])
    row = []
    while ready:
        member = heappop(ready)
        row.append(member)
        for goal in arrows[member]:
            waiting[goal] -= 1
            if waiting[goal] == 0:
                heappush(ready, goal)
    # Members of a round never become ready, nor do those behind it.
    if len(row) < len(arrows):
        return None
    return row


def is_onward(arrows, row):
    """Whether row has all members, each once, and every arrow goes onward."""
    if sorted(row) != sorted(arrows):
        return False
    places = {member: place for place, member in enumerate(row)}
    return all([places[near] < places[far] for near in arrows for far in arrows[near]])


def all_behind(arrows, row):
    """For each member a dict that has all to which arrows lead from it.

    row is one in which every arrow goes onward.
    """
    behind = {}
    for member in reversed(row):
        reached = {}
        for goal in arrows[member]:
            reached[goal] = True
            for far in behind[goal]:
                reached[far] = True
        behind[member] = reached
    return behind


def nearest_in(behind):
    """The list of the pairs (near, far) with far behind near and none between, ascending.

    behind is as all_behind tells it.
    """
    return sorted([
        (near, far)
        for near in behind for far in behind[near]
        if not any([far in behind[between] for between in behind[near]])
    ])


def how_many_rows(arrows):
    """How many lists of all members there are in which every arrow goes onward."""
    places = {member: place for place, member in enumerate(arrows)}
    needed = [0] * len(places)
    for near in arrows:
        for far in arrows[near]:
            needed[places[far]] = needed[places[far]] | (1 << places[near])
    # What can follow is the same for all beginnings with the same members, so
    # for each set of members, told by bits, only the number of these is kept.
    ways = {0: 1}
    for _ in arrows:
        longer = {}
        for taken in ways:
            for place, need in enumerate(needed):
                more = taken | (1 << place)
                if more != taken and (taken & need) == need:
                    longer[more] = longer.get(more, 0) + ways[taken]
        ways = longer
    return sum(ways.values())


def ways_to(arrows, goal):
    """For each member that leads to goal: by how few arrows, at least one."""
    steps = {}
    edge = [goal]
    many = 0
    while edge:
        many += 1
        fresh = [
            member for member in arrows
            if member not in steps and any([far in edge for far in arrows[member]])
        ]
        for member in fresh:
            steps[member] = many
        edge = fresh
    return steps


def _least_round_from(arrows, start):
    """The least of the shortest rounds that begin at start; None if none does."""
    steps = ways_to(arrows, start)
    if start not in steps:
        return None
    members = [start]
    for left in range(steps[start] - 1, 0, -1):
        near = members[-1]
        members.append(min([far for far in arrows[near] if steps.get(far) == left]))
    return tuple(members)


def least_round(arrows):
    """The least of the tuples with as few members as can be that arrows go round.

    Each member has an arrow to the next one, and the last one to the first
    one. None if there is no such tuple. No member has an arrow to itself.
    """
    best = None
    for start in sorted(arrows):
        found = _least_round_from(arrows, start)
        if found is not None and (best is None or len(found) < len(best)):
            best = found
    return best
