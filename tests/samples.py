"""The patterns and runs of the document's examples, and others that many tests use."""

import itertools
import random

from barredcrossings.errors import BadText, NoLetter, Unfit
from barredcrossings.talk import Talk
from tests.oracles import NAMES, all_bonds, some_run

ORDER = (("a", "s", "b", "s"), ("b", "r", "a", "r"))
CROSSING = (("a", "s", "b", "r"), ("b", "s", "a", "r"))
ANSWER = (("a", "r", "b", "s"),)
CHAIN = (("a", "s", "b", "r"), ("b", "s", "c", "r"))
STUCK = (("a", "s", "b", "s"), ("b", "s", "a", "s"))
THREE = (("a", "s", "b", "r"), ("b", "s", "c", "r"), ("c", "s", "a", "r"))
BOTH = (("a", "s", "b", "r"), ("a", "s", "b", "s"), ("b", "r", "a", "r"), ("b", "s", "a", "r"))

# Its RING with fewest turns is not its shortest RING: d to g turn twice, a to c three times.
LONG_AND_SHORT = tuple(sorted(THREE + (
    ("d", "s", "e", "r"), ("e", "r", "f", "r"), ("f", "s", "g", "r"), ("g", "r", "d", "r"),
)))

# 16 BONDS over 8 names, in no RUN: two to each next name, and round.
GREAT_ROUND = tuple(sorted(
    (one, end, other, "s") for one, other in zip("abcdefgh", "bcdefgha") for end in "rs"
))

# 16 BONDS over 8 names that only asking letters keep out: each next one crosses the last one.
GREAT_ASKS = tuple(sorted(
    bond for one, other in zip("abcdefgh", "bcdefgha")
    for bond in ((one, "s", other, "r"), (other, "s", one, "r"))
))

# 16 BONDS over 8 names: h is handed over ahead of where g is handed in, g ahead
# of f, and so on; the other 9 follow from these 7.
GREAT = tuple(sorted(
    [(one, "r", other, "s") for one, other in zip("hgfedcb", "gfedcba")]
    + [(one, "s", other, "r") for one, other in zip("hgfedcb", "gfedcba")]
    + [("h", "s", "a", "s"), ("h", "r", "a", "r")]
))

SWAP = (((0, "s"), (2, "s")), ((3, "r"), (0, "r")), ((1, "s"), (3, "s")), ((2, "r"), (1, "r")))
RUSH = (((0, "s"), (1, "s")), ((1, "r"), (0, "r")))
CALM = (((0, "s"),), ((0, "r"), (2, "s")), ((2, "r"), (1, "s")), ((1, "r"),))

EVERY_BOND = all_bonds(8)


def all_patterns(many):
    """All PATTERNS between the first names."""
    bonds = all_bonds(many)
    for size in range(1, len(bonds) + 1):
        yield from itertools.combinations(bonds, size)


def some_patterns(seed, times):
    """PATTERNS of up to 16 BONDS over 3 to 8 names, most of them in some RUN."""
    dice = random.Random(seed)
    for _ in range(times):
        many = dice.randint(3, 8)
        names = list(NAMES[:many])
        places = dice.sample(range(99), 2 * many)
        place = {}
        for at, name in enumerate(names):
            place[(name, "s")], place[(name, "r")] = sorted(places[2 * at:2 * at + 2])
        bonds = [bond for bond in all_bonds(many) if place[bond[:2]] < place[bond[2:]]]
        if dice.random() < 0.2:
            bonds = list(all_bonds(many))
        yield tuple(sorted(dice.sample(bonds, min(len(bonds), dice.randint(1, 16)))))


def ring_pattern(names, turning, dice):
    """A PATTERN that has one RING alone, through these names, which turns at those of turning."""
    bonds = []
    passing = [("s", "s"), ("s", "r"), ("r", "r")]
    ways = {name: ("r", "s") if name in turning else dice.choice(passing) for name in names}
    for one, other in zip(names, names[1:] + names[:1]):
        bonds.append((one, ways[one][1], other, ways[other][0]))
    return tuple(sorted(bonds))


def small_patterns(many, most):
    """All PATTERNS of at most so many BONDS between the first names."""
    for size in range(1, most + 1):
        yield from itertools.combinations(all_bonds(many), size)


def free_patterns(seed, times, fewest, most, bonds=16):
    """PATTERNS between so many of the NAMES, with BONDS drawn without any care."""
    dice = random.Random(seed)
    for _ in range(times):
        names = sorted(dice.sample(NAMES, dice.randint(fewest, most)))
        own = [bond for bond in EVERY_BOND if bond[0] in names and bond[2] in names]
        yield tuple(sorted(dice.sample(own, min(len(own), dice.randint(1, bonds)))))


def some_runs(seed, times, most=6):
    """RUNS of up to so many letters, of all kinds, with numbers here and there."""
    dice = random.Random(seed)
    for _ in range(times):
        many = dice.randint(0, most)
        labels = dice.sample([*range(9), 50, 10 ** 30], many)
        yield some_run(dice, many, dice.randint(2, 4), labels)


def great_run():
    """A RUN of 16 rows and 24 letters, which go one by one."""
    rows = [[] for _ in range(16)]
    for letter in range(24):
        rows[letter * 5 % 16].append((letter, "s"))
        rows[(letter * 5 + 3) % 16].append((letter, "r"))
    return tuple(tuple(row) for row in rows)


def ring_run(many):
    """A RUN in which each house hands in a letter for the house ahead, then gets one.

    The only crowns are those of all of its letters: 0, 1 and so on, and round.
    """
    return tuple(((house, "s"), ((house + 1) % many, "r")) for house in range(many))


def nested(value, levels):
    """The value within so many tuples."""
    for _ in range(levels):
        value = (value,)
    return value


def odd_things():
    """Values that are no BOND, no PATTERN, no WISH, no RUN and no row of anything."""
    talk = Talk(2, (ORDER,))
    talk.send(0, 0, 1)
    return [
        talk, Talk(2, ()), (talk,), (talk, talk), ((talk,),), ((talk, "s"),), (("a", "s", "b", talk),),
        ((talk, "s", "b", "r"),), (0, talk), ("a", talk), (((0, "s"), (1, talk)),), nested(talk, 11), [talk],
        None, True, False, 0, 1, -1, 7, 10 ** 40, "", "a", "s", "asbr", "0s",
        [], [()], [[]], [("a", "s", "b", "r")], Unfit(), BadText(), NoLetter(0),
        (None,), (True,), (0,), ("",), ("a",), ([],), ((None,),), (Unfit(),), ((NoLetter(1),),),
        ((("a",),),), ((0, "s"),), ((((0, "s"),),),), ("a", "s", "b"), ("a", "s", "b", "r", "a"),
        (0, "s", 1, "r"), nested((), 3), nested(1, 12), nested((), 11), nested([], 11), nested(Unfit(), 12),
    ]
