"""Wishes: by which runs they are kept, and what of them can be left out.

A WISH is an ascending tuple of PATTERNS none of which is ever to be in a RUN.
"""

from barredcrossings.built import run_with
from barredcrossings.forms import as_tuples
from barredcrossings.patterns import ends_behind, names_of
from barredcrossings.places import are_places, first_places
from barredcrossings.sorts import SORTS, in_some, is_dearer, sort_of


def sort_of_wish(wish):
    """The dearest SORT of the PATTERNS of the WISH; "itself" if there are none."""
    return SORTS[max([SORTS.index(sort_of(pattern)) for pattern in wish], default=0)]


def dearest(wish):
    """The WISH of those of its PATTERNS that have its dearest SORT."""
    sort = sort_of_wish(wish)
    return tuple([pattern for pattern in as_tuples(wish) if sort_of(pattern) == sort])


def cheapest_part(wish, sort):
    """The WISH of those of its PATTERNS that are of this SORT or a cheaper one."""
    return tuple([
        pattern for pattern in as_tuples(wish) if not is_dearer(sort_of(pattern), sort)
    ])


def kept_by(wish, kind):
    """Whether all RUNS of this kind keep the WISH."""
    return not any([in_some(pattern, kind) for pattern in wish])


def breaking_run(wish, kind):
    """A RUN of this kind that does not keep the WISH; None if there is none."""
    for pattern in wish:
        run = run_with(pattern, kind)
        if run is not None:
            return run
    return None


def covering(one, other):
    """The least tuple of names of other for which all BONDS of one follow from other.

    None if there is none. Raises Unfit if other is in no RUN.
    """
    return first_places(one, names_of(other), ends_behind(other))


def covers(one, other):
    """Whether one is, by other names, in each RUN in which other is.

    Raises Unfit if other is in no RUN.
    """
    return covering(one, other) is not None


def is_covering(one, other, thing):
    """Whether thing is a tuple of names of other for which all BONDS of one follow from it.

    Raises Unfit if other is in no RUN.
    """
    return are_places(one, names_of(other), ends_behind(other), thing)


def needless(wish):
    """The WISH of those of its PATTERNS that are in no RUN, or that another one covers."""
    own = as_tuples(wish)
    return tuple([
        pattern for pattern in own
        if not in_some(pattern, "any")
        or any([covers(other, pattern) for other in own if other != pattern])
    ])


def _gives_way(pattern, other):
    """Whether other covers the PATTERN, and is the lesser one if both cover one another."""
    return covers(other, pattern) and (other < pattern or not covers(pattern, other))


def thinned(wish):
    """The WISH without those of its PATTERNS that need not be told beside the others."""
    own = [pattern for pattern in as_tuples(wish) if in_some(pattern, "any")]
    return tuple([
        pattern for pattern in own
        if not any([_gives_way(pattern, other) for other in own])
    ])
