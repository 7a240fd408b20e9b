"""Built runs: what a PATTERN tells of the ends of its names, and RUNS that have it.

An end of a name is a pair of a name and "s" or "r".
"""

from barredcrossings.orders import how_many_rows, is_onward, least_row, nearest_in
from barredcrossings.patterns import ENDS, end_arrows, ends_behind, name_arrows, names_of
from barredcrossings.runs import behind_in, is_causal, is_one_by_one, is_run
from barredcrossings.sorts import in_some


def end_order(pattern):
    """The ascending list of all pairs (near, far) of ends with near told ahead of far.

    Raises Unfit if the PATTERN is in no RUN.
    """
    behind = ends_behind(pattern)
    return sorted([(near, far) for near in behind for far in behind[near]])


def nearest_pairs(pattern):
    """The ascending list of those of these pairs that have no end between them.

    Raises Unfit if the PATTERN is in no RUN.
    """
    return nearest_in(ends_behind(pattern))


def name_row(pattern):
    """A tuple of all names, one ahead of other for each BOND; None if there is none."""
    row = least_row(name_arrows(pattern))
    if row is None:
        return None
    return tuple(row)


def is_name_row(pattern, thing):
    """Whether thing is a tuple of all names, one ahead of other for each BOND."""
    if not isinstance(thing, tuple) or not all([isinstance(name, str) for name in thing]):
        return False
    return is_onward(name_arrows(pattern), thing)


def how_many_name_rows(pattern):
    """How many such tuples of all names there are."""
    return how_many_rows(name_arrows(pattern))


def how_many_orders(pattern):
    """In how many orders all ends can stand, each behind all that are told ahead of it."""
    return how_many_rows(end_arrows(pattern))


def _links(pattern):
    """The nearest pairs of ends of unlike names, those from names that go first ahead."""
    row = name_row(pattern)
    if row is None:
        row = names_of(pattern)
    places = {name: place for place, name in enumerate(row)}
    links = [
        (places[near[0]], near, far)
        for near, far in nearest_pairs(pattern) if near[0] != far[0]
    ]
    return [(near, far) for _, near, far in sorted(links)]


def _told_run(pattern):
    """A RUN in which just those ends are ahead of one another that are told so.

    Each end has a house of its own, and each nearest pair of ends of unlike
    names a letter from the one house to the other one. As no end is between
    those two, no such letter is ever overtaken. If the names have a row, all
    houses meet the letters in one order, that of this row, each name followed
    by the letters that go out behind its ends; so they go one by one.
    """
    names = names_of(pattern)
    coming = {(name, end): [] for name in names for end in ENDS}
    going = {(name, end): [] for name in names for end in ENDS}
    for letter, (near, far) in enumerate(_links(pattern), start=len(names)):
        going[near].append((letter, "s"))
        coming[far].append((letter, "r"))
    return tuple([
        tuple(coming[(name, end)] + [(letter, end)] + going[(name, end)])
        for letter, name in enumerate(names) for end in ENDS
    ])


def run_with(pattern, kind):
    """A RUN of this kind in which the letters 0, 1 and so on are a placing of the PATTERN.

    None if the PATTERN is in no RUN of this kind.
    """
    if not in_some(pattern, kind):
        return None
    return _told_run(pattern)


def _is_of_kind(run, kind):
    """Whether the RUN is of this kind."""
    if kind == "causal":
        return is_causal(run)
    if kind == "one by one":
        return is_one_by_one(run)
    return True


def is_run_with(pattern, kind, thing):
    """Whether thing is a RUN of this kind in which those letters are a placing."""
    if not is_run(thing) or not _is_of_kind(thing, kind):
        return False
    letters = {name: letter for letter, name in enumerate(names_of(pattern))}
    behind = behind_in(thing)
    return all([
        (letters[other], place) in behind.get((letters[one], end), {})
        for one, end, other, place in pattern
    ])
