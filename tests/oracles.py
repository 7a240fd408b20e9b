"""What the document says, word by word and slowly, for the tests to compare with.

Nothing here uses the package.
"""

import itertools

NAMES = "abcdefgh"


def all_bonds(many):
    """All BONDS between the first names, ascending."""
    return tuple(sorted(
        (one, end, other, place)
        for one in NAMES[:many] for other in NAMES[:many] if one != other
        for end in "rs" for place in "rs"
    ))


def pairs_by_way_of_others(pairs):
    """The pairs, and all that chains of them lead to."""
    found = set(pairs)
    members = {member for pair in pairs for member in pair}
    for middle in members:
        for near in members:
            if (near, middle) in found:
                for far in members:
                    if (middle, far) in found:
                        found.add((near, far))
    return found


def told_pairs(pattern):
    """All pairs of ends of names of which the first is told ahead of the second."""
    pairs = {((one, end), (other, place)) for one, end, other, place in pattern}
    pairs |= {((name, "s"), (name, "r")) for bond in pattern for name in (bond[0], bond[2])}
    return pairs_by_way_of_others(pairs)


def is_in_no_run(pattern):
    return any(near == far for near, far in told_pairs(pattern))


def following(pattern):
    """All BONDS that chains lead to."""
    return tuple(sorted(
        near + far for near, far in told_pairs(pattern) if near[0] != far[0]
    ))


def ahead_pairs(rows):
    """All pairs of ENDS of which the first is ahead of the second."""
    pairs = set()
    for row in rows:
        pairs |= set(itertools.combinations(row, 2))
    letters = {letter for row in rows for letter, _ in row}
    pairs |= {((letter, "s"), (letter, "r")) for letter in letters}
    return pairs_by_way_of_others(pairs)


def is_run(rows):
    """Whether rows of ENDS, of the right form, are a RUN."""
    ends = [end for row in rows for end in row]
    if len(set(ends)) < len(ends):
        return False
    for letter in {letter for letter, _ in ends}:
        if (letter, "s") not in ends or (letter, "r") not in ends:
            return False
        if any((letter, "s") in row and (letter, "r") in row for row in rows):
            return False
    return not any(near == far for near, far in ahead_pairs(rows))


def letters(run):
    return sorted({letter for row in run for letter, _ in row})


def time_rows(run):
    """All tuples of all ENDS in which each stands behind those ahead of it."""
    pairs = ahead_pairs(run)
    ends = sorted(end for row in run for end in row)
    return [
        row for row in itertools.permutations(ends)
        if not any((far, near) in pairs for near, far in itertools.combinations(row, 2))
    ]


def overtaken(run):
    pairs = ahead_pairs(run)
    return sorted(
        (x, y) for x, y in itertools.permutations(letters(run), 2)
        if any(
            (x, "r") in row and (y, "r") in row and row.index((y, "r")) < row.index((x, "r"))
            for row in run
        ) and ((x, "s"), (y, "s")) in pairs
    )


def letter_rows(run):
    """All tuples of all letters in which each stands behind those it must."""
    pairs = {(near[0], far[0]) for near, far in ahead_pairs(run)}
    return [
        row for row in itertools.permutations(letters(run))
        if not any((y, x) in pairs for x, y in itertools.combinations(row, 2))
    ]


def crowns(run, many):
    """All crowns of so many letters, ascending."""
    pairs = ahead_pairs(run)
    return [
        row for row in itertools.permutations(letters(run), many)
        if all(((row[at - 1], "s"), (row[at], "r")) in pairs for at in range(many))
    ]


def least_crown(run):
    for many in range(2, len(letters(run)) + 1):
        found = crowns(run, many)
        if found:
            return found[0]
    return None


def some_run(dice, many, houses, labels=None):
    """A RUN of so many letters and houses, as the dice fall."""
    labels = list(range(many)) if labels is None else labels
    rows = [[] for _ in range(houses)]
    unsent, under_way = list(labels), []
    dice.shuffle(unsent)
    while unsent or under_way:
        if unsent and (not under_way or dice.random() < 0.5):
            letter = unsent.pop()
            near, far = dice.sample(range(houses), 2)
            rows[near].append((letter, "s"))
            under_way.append((letter, far))
        else:
            letter, far = under_way.pop(dice.randrange(len(under_way)))
            rows[far].append((letter, "r"))
    return tuple(tuple(row) for row in rows)


def run_of_told(pattern):
    """A RUN in which the letters 0, 1 .. stand for the names, and no more is ahead than is told.

    Each end of a name has a house of its own, and each BOND a letter of its own
    from the one house to the other one.
    """
    names = sorted({name for bond in pattern for name in (bond[0], bond[2])})
    rows = []
    for at, name in enumerate(names):
        for end in "rs":
            comes = [(len(names) + k, "r") for k, bond in enumerate(pattern) if bond[2:] == (name, end)]
            goes = [(len(names) + k, "s") for k, bond in enumerate(pattern) if bond[:2] == (name, end)]
            rows.append((*comes, (at, end), *goes))
    return tuple(rows)


def as_lists(value):
    """The same value with lists for tuples, at any depth."""
    if isinstance(value, tuple):
        return [as_lists(part) for part in value]
    return value
