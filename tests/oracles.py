"""What the document says, word by word and slowly, for the tests to compare with.

Nothing here uses the package.
"""

import itertools

NAMES = "abcdefgh"


def all_bonds(many):
    """All BONDS between the first names, ascending."""
    return tuple(sorted(
        (one, end, other, place)
        for one in NAMES[:many] for other in NAMES[:many] if one != other
        for end in "rs" for place in "rs"
    ))


def pairs_by_way_of_others(pairs):
    """The pairs, and all that chains of them lead to."""
    found = set(pairs)
    members = {member for pair in pairs for member in pair}
    for middle in members:
        for near in members:
            if (near, middle) in found:
                for far in members:
                    if (middle, far) in found:
                        found.add((near, far))
    return found


def told_pairs(pattern):
    """All pairs of ends of names of which the first is told ahead of the second."""
    pairs = {((one, end), (other, place)) for one, end, other, place in pattern}
    pairs |= {((name, "s"), (name, "r")) for bond in pattern for name in (bond[0], bond[2])}
    return pairs_by_way_of_others(pairs)


def is_in_no_run(pattern):
    return any(near == far for near, far in told_pairs(pattern))


def following(pattern):
    """All BONDS that chains lead to."""
    return tuple(sorted(
        near + far for near, far in told_pairs(pattern) if near[0] != far[0]
    ))


def is_ring(row):
    """Whether a tuple of BONDS is a RING, by the words of the document."""
    if len(row) < 2 or row[0] != min(row):
        return False
    if len({bond[0] for bond in row}) < len(row):
        return False
    return all(row[at - 1][2] == row[at][0] for at in range(len(row)))


def rings(pattern):
    """All RINGS, out of all rows of BONDS."""
    most = len({name for bond in pattern for name in (bond[0], bond[2])})
    return sorted(
        row for many in range(2, most + 1)
        for row in itertools.permutations(pattern, many) if is_ring(row)
    )


def rings_by_names(pattern):
    """All RINGS, out of all rows of names: quicker where there are more than 5."""
    bonds = {}
    for bond in pattern:
        bonds.setdefault((bond[0], bond[2]), []).append(bond)
    found = []
    names = sorted({name for bond in pattern for name in (bond[0], bond[2])})
    for many in range(2, len(names) + 1):
        for row in itertools.permutations(names, many):
            steps = [(row[at - 1], row[at]) for at in range(many)]
            if row[0] == min(row) and all(step in bonds for step in steps):
                for ring in itertools.product(*[bonds[step] for step in steps]):
                    at = ring.index(min(ring))
                    found.append(ring[at:] + ring[:at])
    return sorted(found)


def turning_names(ring):
    return tuple(sorted(
        ring[at][0] for at in range(len(ring)) if ring[at - 1][3] == "r" and ring[at][1] == "s"
    ))


def least_of(found):
    """Of these RINGS those with the least number of turns, of them those with fewest BONDS."""
    measure = {ring: (len(turning_names(ring)), len(ring)) for ring in found}
    return [ring for ring in found if measure[ring] == min(measure.values())]


def sort_of(pattern, found=None):
    found = rings(pattern) if found is None else found
    if not found:
        return "never"
    return ("itself", "marks", "asks")[min(2, min(len(turning_names(ring)) for ring in found))]


def name_rows(pattern):
    """All rows of all names in which one stands ahead of other for each BOND."""
    names = sorted({name for bond in pattern for name in (bond[0], bond[2])})
    return [
        row for row in itertools.permutations(names)
        if all(row.index(bond[0]) < row.index(bond[2]) for bond in pattern)
    ]


def end_rows(pattern):
    """All rows of all ends of names in which each stands behind those told ahead of it."""
    pairs = told_pairs(pattern)
    ends = sorted({end for pair in pairs for end in pair})
    return [
        row for row in itertools.permutations(ends)
        if not any((far, near) in pairs for near, far in itertools.combinations(row, 2))
        and not any((end, end) in pairs for end in row)
    ]


def how_many_end_rows(pattern):
    """How many such rows there are, one end after another."""
    pairs = told_pairs(pattern)

    def onward(left):
        if not left:
            return 1
        free = [end for end in left if not any((other, end) in pairs for other in left)]
        return sum(onward([other for other in left if other != end]) for end in free)

    return onward(sorted({end for pair in pairs for end in pair}))


def ahead_pairs(rows):
    """All pairs of ENDS of which the first is ahead of the second."""
    pairs = set()
    for row in rows:
        pairs |= set(itertools.combinations(row, 2))
    letters = {letter for row in rows for letter, _ in row}
    pairs |= {((letter, "s"), (letter, "r")) for letter in letters}
    return pairs_by_way_of_others(pairs)


def is_run(rows):
    """Whether rows of ENDS, of the right form, are a RUN."""
    ends = [end for row in rows for end in row]
    if len(set(ends)) < len(ends):
        return False
    for letter in {letter for letter, _ in ends}:
        if (letter, "s") not in ends or (letter, "r") not in ends:
            return False
        if any((letter, "s") in row and (letter, "r") in row for row in rows):
            return False
    return not any(near == far for near, far in ahead_pairs(rows))


def letters(run):
    return sorted({letter for row in run for letter, _ in row})


def time_rows(run):
    """All tuples of all ENDS in which each stands behind those ahead of it."""
    pairs = ahead_pairs(run)
    ends = sorted(end for row in run for end in row)
    return [
        row for row in itertools.permutations(ends)
        if not any((far, near) in pairs for near, far in itertools.combinations(row, 2))
    ]


def overtaken(run):
    pairs = ahead_pairs(run)
    return sorted(
        (x, y) for x, y in itertools.permutations(letters(run), 2)
        if any(
            (x, "r") in row and (y, "r") in row and row.index((y, "r")) < row.index((x, "r"))
            for row in run
        ) and ((x, "s"), (y, "s")) in pairs
    )


def letter_rows(run):
    """All tuples of all letters in which each stands behind those it must."""
    pairs = {(near[0], far[0]) for near, far in ahead_pairs(run)}
    return [
        row for row in itertools.permutations(letters(run))
        if not any((y, x) in pairs for x, y in itertools.combinations(row, 2))
    ]


def is_one_by_one(run):
    """Whether no letter would have to stand ahead of itself."""
    pairs = {(near[0], far[0]) for near, far in ahead_pairs(run) if near[0] != far[0]}
    return not any(near == far for near, far in pairs_by_way_of_others(pairs))


def is_of_kind(run, kind):
    if kind == "causal":
        return not overtaken(run)
    return kind == "any" or is_one_by_one(run)


def holding(run, placed):
    """All BONDS that hold if the names a, b and so on are these letters."""
    pairs = ahead_pairs(run)
    return tuple(
        bond for bond in all_bonds(len(placed))
        if ((placed[NAMES.index(bond[0])], bond[1]), (placed[NAMES.index(bond[2])], bond[3])) in pairs
    )


def is_placing(pattern, run, placed):
    """Whether these letters, one for each name in their order, have all the BONDS."""
    pairs = ahead_pairs(run)
    names = sorted({name for bond in pattern for name in (bond[0], bond[2])})
    at = dict(zip(names, placed))
    return all(((at[one], end), (at[other], place)) in pairs for one, end, other, place in pattern)


def crowns(run, many):
    """All crowns of so many letters, ascending."""
    pairs = ahead_pairs(run)
    return [
        row for row in itertools.permutations(letters(run), many)
        if all(((row[at - 1], "s"), (row[at], "r")) in pairs for at in range(many))
    ]


def least_crown(run):
    for many in range(2, len(letters(run)) + 1):
        found = crowns(run, many)
        if found:
            return found[0]
    return None


def some_run(dice, many, houses, labels=None):
    """A RUN of so many letters and houses, as the dice fall."""
    labels = list(range(many)) if labels is None else labels
    rows = [[] for _ in range(houses)]
    unsent, under_way = list(labels), []
    dice.shuffle(unsent)
    while unsent or under_way:
        if unsent and (not under_way or dice.random() < 0.5):
            letter = unsent.pop()
            near, far = dice.sample(range(houses), 2)
            rows[near].append((letter, "s"))
            under_way.append((letter, far))
        else:
            letter, far = under_way.pop(dice.randrange(len(under_way)))
            rows[far].append((letter, "r"))
    return tuple(tuple(row) for row in rows)


def some_calm_run(dice, many, houses):
    """A RUN of so many letters that go one by one."""
    rows = [[] for _ in range(houses)]
    labels = list(range(many))
    dice.shuffle(labels)
    for letter in labels:
        near, far = dice.sample(range(houses), 2)
        rows[near].append((letter, "s"))
        rows[far].append((letter, "r"))
    return tuple(tuple(row) for row in rows)


def run_of_told(pattern):
    """A RUN in which the letters 0, 1 .. stand for the names, and no more is ahead than is told.

    Each end of a name has a house of its own, and each BOND a letter of its own
    from the one house to the other one.
    """
    names = sorted({name for bond in pattern for name in (bond[0], bond[2])})
    rows = []
    for at, name in enumerate(names):
        for end in "rs":
            comes = [(len(names) + k, "r") for k, bond in enumerate(pattern) if bond[2:] == (name, end)]
            goes = [(len(names) + k, "s") for k, bond in enumerate(pattern) if bond[:2] == (name, end)]
            rows.append((*comes, (at, end), *goes))
    return tuple(rows)


def as_lists(value):
    """The same value with lists for tuples, at any depth."""
    if isinstance(value, tuple):
        return [as_lists(part) for part in value]
    return value


def names_of(pattern):
    return sorted({name for bond in pattern for name in (bond[0], bond[2])})


def with_names(pattern, names):
    """The BONDS with these names in the place of its own, in their order."""
    new = dict(zip(names_of(pattern), names))
    return {(new[one], end, new[other], place) for one, end, other, place in pattern}


def coverings(one, other):
    """All rows of unlike names of other for which all BONDS of one follow from other."""
    follow = set(following(other))
    return [
        row for row in itertools.permutations(names_of(other), len(names_of(one)))
        if with_names(one, row) <= follow
    ]


def placings(pattern, run):
    """All placings, out of all rows of unlike letters."""
    pairs = ahead_pairs(run)
    found = []
    for row in itertools.permutations(letters(run), len(names_of(pattern))):
        at = dict(zip(names_of(pattern), row))
        if all(((at[one], end), (at[other], place)) in pairs for one, end, other, place in pattern):
            found.append(row)
    return found


def is_kept(run, wish):
    return not any(placings(pattern, run) for pattern in wish)


def without(run, letter):
    return tuple(tuple(end for end in row if end[0] != letter) for row in run)


def guilty(run, wish):
    if is_kept(run, wish):
        return ()
    return tuple(letter for letter in letters(run) if is_kept(without(run, letter), wish))


def house_of(run, end):
    return [house for house, row in enumerate(run) if end in row][0]


def known(run, end):
    pairs = ahead_pairs(run)
    return tuple(letter for letter in letters(run) if ((letter, "s"), end) in pairs)


def due(run, letter):
    return tuple(
        x for x in known(run, (letter, "s")) if house_of(run, (x, "r")) == house_of(run, (letter, "r"))
    )


def some_time_row(run, dice):
    """Some row of all ENDS in which each stands behind those ahead of it, as the dice fall."""
    left, row = [list(own) for own in run], []
    while any(left):
        free = [
            own for own in left if own and (own[0][1] == "s" or (own[0][0], "s") in row)
        ]
        row.append(dice.choice(free).pop(0))
    return row


def played(run, dice):
    """What comes if houses hold letters back: rows, later arrivals of each letter, most that wait."""
    rows, arrived = [[] for _ in run], [[] for _ in run]
    later, most = {}, 0
    for letter, end in some_time_row(run, dice):
        house = house_of(run, (letter, end))
        if end == "s":
            rows[house].append((letter, "s"))
            continue
        arrived[house].append(letter)
        while True:
            pairs = ahead_pairs(rows)
            waiting = [x for x in arrived[house] if (x, "r") not in rows[house]]
            free = [
                x for x in waiting if not any(
                    ((y, "s"), (x, "s")) in pairs and house_of(run, (y, "r")) == house and (y, "r") not in rows[house]
                    for y in letters(run))
            ]
            if not free:
                break
            rows[house].append((free[0], "r"))
            later[free[0]] = len(arrived[house]) - arrived[house].index(free[0]) - 1
        most = max(most, len(waiting))
    return tuple(tuple(row) for row in rows), later, most
