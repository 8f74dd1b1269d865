"""Kinds: how keys are labelled, and how labels are searched."""

from kindgrove.errors import NotGiven


class Kind:
    """The base class of kinds, with the penalty and the sides that serve any kind."""

    def own(self, key):
        """The label of a key."""
        raise NotGiven("own")

    def join(self, one, other):
        """A label for everything that lies below one label or below the other one."""
        raise NotGiven("join")

    def consistent(self, label, question):
        """Whether a key below the label may match the question."""
        raise NotGiven("consistent")

    def matches(self, key, question):
        """Whether a key matches the question."""
        raise NotGiven("matches")

    def penalty(self, label, key):
        """What it costs to put the key below the label."""
        return 0

    def sides(self, labels):
        """0 or 1 for each label: the part into which its entry goes when a node is divided."""
        half = len(labels) // 2
        return [0] * half + [1] * (len(labels) - half)
