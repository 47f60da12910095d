"""The plain kinds of values that many points ask for."""


def is_integer(thing):
    """Whether it is an integer; a flag is none."""
    return isinstance(thing, int) and not isinstance(thing, bool)


def is_row(thing):
    """Whether it is a row of something: a list or a tuple."""
    return isinstance(thing, (list, tuple))
