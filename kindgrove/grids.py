"""Grids: functions of two plain values that differ from a constant in finitely many places."""

from kindgrove.errors import BadValue
from kindgrove.values import by_repr, is_flag, is_plain


class Filling:
    """What a new grid of flags begins with: a default, and the places with the other flag, in their order.

    An operator may not change even the grid that it returns, so this is handed over in the place of a default.
    """

    def __init__(self, default, places):
        self.default = default
        self.entries = {place: not default for place in places}


class Grid:
    """A default, and the values at the places that stand, in the order in which they began to stand."""

    def __init__(self, default=False):
        if isinstance(default, Filling):
            self.default = default.default
            self.entries = default.entries
        elif is_flag(default) or is_plain(default):
            self.default = default
            self.entries = {}
        else:
            raise BadValue(default)

    def __getitem__(self, at):
        return self.entries.get(checked_place(at), self.default)

    def __setitem__(self, at, worth):
        place = checked_place(at)
        if not self.has_value(worth):
            raise BadValue(worth)
        if worth != self.default:
            self.entries[place] = worth
        elif place in self.entries:
            del self.entries[place]

    def __call__(self, one, other):
        """The value at a place, as with an index."""
        return self[one, other]

    def __iter__(self):
        raise TypeError("a grid is not iterated over")

    def __contains__(self, x):
        return is_place(x) and x in self.entries

    def __len__(self):
        return len(self.entries)

    def __bool__(self):
        return bool(self.entries)

    def __eq__(self, other):
        if not isinstance(other, Grid):
            return False
        if is_flag(self.default) != is_flag(other.default):
            return False
        return self.default == other.default and self.entries == other.entries

    def __and__(self, other):
        default = self.default and other.default
        unlike = [place for place in standing_in(self, other) if (self[place] and other[place]) != default]
        return Grid(Filling(default, unlike))

    def __or__(self, other):
        default = self.default or other.default
        unlike = [place for place in standing_in(self, other) if (self[place] or other[place]) != default]
        return Grid(Filling(default, unlike))

    def __invert__(self):
        return Grid(Filling(not self.default, by_repr(list(self.entries))))

    def __ior__(self, other):
        union = self | other
        self.default = union.default
        self.entries = union.entries
        return self

    def places(self):
        """The places that stand, in the order in which they began to stand."""
        return list(self.entries)

    def under(self, other):
        """Whether the other grid is True at every place, standing or not, at which this one is."""
        if self.default and not other.default:
            return False
        return all([other[place] or not self[place] for place in standing_in(self, other)])

    def has_value(self, thing):
        """Whether any object is a value that this grid may have."""
        if is_flag(self.default):
            return is_flag(thing)
        return is_plain(thing)


def is_place(thing):
    """Whether any object is a tuple of two plain values."""
    return isinstance(thing, tuple) and len(thing) == 2 and is_plain(thing[0]) and is_plain(thing[1])


def checked_place(thing):
    """The thing itself, if it is a place; otherwise an error for what is wrong with it."""
    if not isinstance(thing, tuple) or len(thing) != 2:
        raise BadValue(thing)
    for part in thing:
        if not is_plain(part):
            raise BadValue(part)
    return thing


def standing_in(one, other):
    """The places that stand in one of two grids or in both, in ascending order of their repr."""
    further = [place for place in other.entries if place not in one.entries]
    return by_repr(list(one.entries) + further)
