"""Forms of plain values that several files ask for."""


def is_number(thing):
    """Whether thing is an integer; True and False are none."""
    return isinstance(thing, int) and not isinstance(thing, bool)


def as_tuples(value):
    """The same value with a tuple in the place of each list, at any depth."""
    if isinstance(value, (list, tuple)):
        return tuple([as_tuples(part) for part in value])
    return value
