"""What is an integer, a flag and a plain value, and in which order plain values are told."""

DEEPEST = 4


def is_int(thing):
    """Whether any object is an integer: a flag is none."""
    return isinstance(thing, int) and not isinstance(thing, bool)


def is_flag(thing):
    """Whether any object is True or False."""
    return isinstance(thing, bool)


def by_repr(things):
    """A list of plain values in ascending order of their repr, as a new list."""
    return sorted(things, key=lambda thing: repr(thing))


def is_plain(thing):
    """Whether any object is a plain value."""
    return is_plain_within(thing, DEEPEST)


def is_plain_within(thing, deepest):
    """Whether any object is a plain value, and at most so deep."""
    if thing is None or isinstance(thing, str) or is_int(thing):
        return True
    if not isinstance(thing, tuple):
        return False
    if deepest == 0:
        return len(thing) == 0
    # A loop that stops at the first wrong part: all([..]) would look at each of them.
    for part in thing:
        if not is_plain_within(part, deepest - 1):
            return False
    return True
