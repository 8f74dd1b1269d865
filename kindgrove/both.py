"""Kinds that are made of other kinds."""

from kindgrove.errors import NotGiven
from kindgrove.kinds import Kind, Measured
from kindgrove.labels import joined, own_label


class Both(Kind, Measured):
    """Two kinds at once: keys, labels, questions and points are tuples of two, a part for each kind."""

    def __init__(self, one, other):
        self.first = one
        self.second = other

    @property
    def one(self):
        """The kind of the first parts."""
        return self.first

    @property
    def other(self):
        """The kind of the second parts."""
        return self.second

    def own(self, key):
        """The labels of both parts."""
        return (own_label(self.first, key[0]), own_label(self.second, key[1]))

    def join(self, one, other):
        """The joins of both parts."""
        return (joined(self.first, one[0], other[0]), joined(self.second, one[1], other[1]))

    def consistent(self, label, question):
        """Whether both parts are consistent; the second one is asked only if the first one is."""
        return self.first.consistent(label[0], question[0]) and self.second.consistent(label[1], question[1])

    def matches(self, key, question):
        """Whether both parts match; the second one is asked only if the first one does."""
        return self.first.matches(key[0], question[0]) and self.second.matches(key[1], question[1])

    def penalty(self, label, key):
        """The sum of both penalties."""
        return self.first.penalty(label[0], key[0]) + self.second.penalty(label[1], key[1])

    def sides(self, labels):
        """The sides of the first parts."""
        return self.first.sides([label[0] for label in labels])

    def distance(self, key, point):
        """The sum of both distances."""
        return distance_by(self.first, key[0], point[0]) + distance_by(self.second, key[1], point[1])

    def bound(self, label, point):
        """The sum of both bounds."""
        return bound_by(self.first, label[0], point[0]) + bound_by(self.second, label[1], point[1])


class Coarse(Kind, Measured):
    """A kind whose labels are squeezed: made coarser by a function of one label."""

    def __init__(self, kind, squeeze):
        self.kind = kind
        self.squeeze = squeeze

    def own(self, key):
        """The squeezed label of a key."""
        return self.squeeze(own_label(self.kind, key))

    def join(self, one, other):
        """The squeezed join of two labels."""
        return self.squeeze(joined(self.kind, one, other))

    def consistent(self, label, question):
        """Whether a key below the label may match the question."""
        return self.kind.consistent(label, question)

    def matches(self, key, question):
        """Whether a key matches the question."""
        return self.kind.matches(key, question)

    def penalty(self, label, key):
        """What it costs to put the key below the label."""
        return self.kind.penalty(label, key)

    def sides(self, labels):
        """0 or 1 for each label: the part into which its entry goes when a node is divided."""
        return self.kind.sides(labels)

    def distance(self, key, point):
        """How far a key is from a point."""
        return distance_by(self.kind, key, point)

    def bound(self, label, point):
        """A number that is meant to be at most the distance of every key below the label."""
        return bound_by(self.kind, label, point)


def distance_by(kind, key, point):
    """The distance by a kind, which must have distances."""
    if not isinstance(kind, Measured):
        raise NotGiven("distance")
    return kind.distance(key, point)


def bound_by(kind, label, point):
    """The bound by a kind, which must have bounds."""
    if not isinstance(kind, Measured):
        raise NotGiven("bound")
    return kind.bound(label, point)
