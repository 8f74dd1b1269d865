"""Kinds that are made of what is known of another kind with some keys."""

from kindgrove.kinds import Kind


class Merged(Kind):
    """A kind whose labels are the indexes of classes of alike labels of another kind.

    owned has the class of each key, table the classes of all joins, and samples a label of each class.
    """

    def __init__(self, kind, owned, table, samples):
        self.kind = kind
        self.owned = owned
        self.table = table
        self.samples = samples

    def own(self, key):
        """The class of the key's label."""
        return self.owned[key]

    def join(self, one, other):
        """The class of the joins of both classes' labels."""
        return self.table[one][other]

    def consistent(self, label, question):
        """Whether a label of the class is consistent with the question."""
        return self.kind.consistent(self.samples[label], question)

    def matches(self, key, question):
        """Whether the key matches the question."""
        return self.kind.matches(key, question)


class Pairing(Kind):
    """Two kinds at once, over the reaches of the same keys: a label is a tuple of indexes, one for each reach."""

    def __init__(self, one, other):
        self.first = one
        self.second = other

    def own(self, key):
        """The indexes of both own labels."""
        return (self.first.owned[key], self.second.owned[key])

    def join(self, one, other):
        """The indexes of both joins."""
        return (self.first.joins.rows[one[0]][other[0]], self.second.joins.rows[one[1]][other[1]])
