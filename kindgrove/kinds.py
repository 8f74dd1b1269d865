"""Kinds: how keys are labelled, how labels are searched, and how far keys are from points."""

from kindgrove.errors import NotGiven


class Kind:
    """The base class of kinds, with the penalty and the sides that serve any kind."""

    def own(self, key):
        """The label of a key."""
        raise NotGiven("own")

    def join(self, one, other):
        """A label for everything that lies below one label or below the other one."""
        raise NotGiven("join")

    def consistent(self, label, question):
        """Whether a key below the label may match the question."""
        raise NotGiven("consistent")

    def matches(self, key, question):
        """Whether a key matches the question."""
        raise NotGiven("matches")

    def penalty(self, label, key):
        """What it costs to put the key below the label."""
        return 0

    def sides(self, labels):
        """0 or 1 for each label: the part into which its entry goes when a node is divided."""
        half = len(labels) // 2
        return [0] * half + [1] * (len(labels) - half)


class Measured:
    """The base class of kinds that also have distances."""

    def distance(self, key, point):
        """How far a key is from a point."""
        raise NotGiven("distance")

    def bound(self, label, point):
        """A number that is meant to be at most the distance of every key below the label."""
        raise NotGiven("bound")


class Calls(Kind, Measured):
    """A kind whose methods call what was passed: functions, grids or other callable objects.

    A grid may be False itself: so what was left out is told by None alone.
    """

    def __init__(self, *, own, join, consistent, matches, penalty=None, sides=None, distance=None, bound=None):
        self.own_function = own
        self.join_function = join
        self.consistent_function = consistent
        self.matches_function = matches
        self.penalty_function = penalty
        self.sides_function = sides
        self.distance_function = distance
        self.bound_function = bound

    def own(self, key):
        """The label of a key."""
        return self.own_function(key)

    def join(self, one, other):
        """A label for everything that lies below one label or below the other one."""
        return self.join_function(one, other)

    def consistent(self, label, question):
        """Whether a key below the label may match the question."""
        return self.consistent_function(label, question)

    def matches(self, key, question):
        """Whether a key matches the question."""
        return self.matches_function(key, question)

    def penalty(self, label, key):
        """What it costs to put the key below the label."""
        if self.penalty_function is None:
            return super().penalty(label, key)
        return self.penalty_function(label, key)

    def sides(self, labels):
        """0 or 1 for each label: the part into which its entry goes when a node is divided."""
        if self.sides_function is None:
            return super().sides(labels)
        return self.sides_function(labels)

    def distance(self, key, point):
        """How far a key is from a point."""
        if self.distance_function is None:
            return super().distance(key, point)
        return self.distance_function(key, point)

    def bound(self, label, point):
        """A number that is meant to be at most the distance of every key below the label."""
        if self.bound_function is None:
            return super().bound(label, point)
        return self.bound_function(label, point)
