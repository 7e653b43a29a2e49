"""Plain values: numbers, tuples for lists, and the numbers of records."""


def is_int(thing):
    """Whether a thing is a number."""
    return isinstance(thing, int) and not isinstance(thing, bool)


def tupled(thing):
    """The same with tuples for lists, at every depth: callers may pass lists, what is returned holds tuples alone."""
    if isinstance(thing, (list, tuple)):
        return tuple([tupled(member) for member in thing])
    return thing


def numbers_of(row):
    """The numbers of the records of a row, in its order."""
    return tuple([number for number, values in row])
