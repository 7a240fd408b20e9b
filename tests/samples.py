"""The patterns and runs of the document's examples, and others that many tests use."""

from barredcrossings.errors import BadText, NoLetter, Unfit
from tests.oracles import all_bonds

ORDER = (("a", "s", "b", "s"), ("b", "r", "a", "r"))
CROSSING = (("a", "s", "b", "r"), ("b", "s", "a", "r"))
ANSWER = (("a", "r", "b", "s"),)
CHAIN = (("a", "s", "b", "r"), ("b", "s", "c", "r"))
STUCK = (("a", "s", "b", "s"), ("b", "s", "a", "s"))

# 16 BONDS over 8 names: h is handed over ahead of where g is handed in, g ahead
# of f, and so on; the other 9 follow from these 7.
GREAT = tuple(sorted(
    [(one, "r", other, "s") for one, other in zip("hgfedcb", "gfedcba")]
    + [(one, "s", other, "r") for one, other in zip("hgfedcb", "gfedcba")]
    + [("h", "s", "a", "s"), ("h", "r", "a", "r")]
))

SWAP = (((0, "s"), (2, "s")), ((3, "r"), (0, "r")), ((1, "s"), (3, "s")), ((2, "r"), (1, "r")))
RUSH = (((0, "s"), (1, "s")), ((1, "r"), (0, "r")))
CALM = (((0, "s"),), ((0, "r"), (2, "s")), ((2, "r"), (1, "s")), ((1, "r"),))

EVERY_BOND = all_bonds(8)


def great_run():
    """A RUN of 16 rows and 24 letters, which go one by one."""
    rows = [[] for _ in range(16)]
    for letter in range(24):
        rows[letter * 5 % 16].append((letter, "s"))
        rows[(letter * 5 + 3) % 16].append((letter, "r"))
    return tuple(tuple(row) for row in rows)


def ring_run(many):
    """A RUN in which each house hands in a letter for the house ahead, then gets one.

    The only crowns are those of all of its letters: 0, 1 and so on, and round.
    """
    return tuple(((house, "s"), ((house + 1) % many, "r")) for house in range(many))


def nested(value, levels):
    """The value within so many tuples."""
    for _ in range(levels):
        value = (value,)
    return value


def odd_things():
    """Values that are no BOND, no PATTERN, no WISH, no RUN and no row of anything."""
    return [
        None, True, False, 0, 1, -1, 7, 10 ** 40, "", "a", "s", "asbr", "0s",
        [], [()], [[]], [("a", "s", "b", "r")], Unfit(), BadText(), NoLetter(0),
        (None,), (True,), (0,), ("",), ("a",), ([],), ((None,),), (Unfit(),), ((NoLetter(1),),),
        ((("a",),),), ((0, "s"),), ((((0, "s"),),),), ("a", "s", "b"), ("a", "s", "b", "r", "a"),
        (0, "s", 1, "r"), nested((), 3), nested(1, 12), nested((), 11), nested([], 11), nested(Unfit(), 12),
    ]
