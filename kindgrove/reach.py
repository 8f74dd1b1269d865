"""What is reached from keys: the labels of all terms, and with which keys among their leaves."""

from kindgrove.errors import BadCount, BadValue, NoLabel, NoPair
from kindgrove.joins import Joins, closed_with
from kindgrove.labels import own_label
from kindgrove.leaves import Leaves
from kindgrove.values import by_repr, is_int, is_plain

MOST_LABELS = 200


class Reach:
    """A growing set of keys, and all labels that are reached from them.

    A key makes a new table of joins, which is taken over at the end: an error changes nothing.
    """

    def __init__(self, kind, keys=(), *, most=200):
        if not is_int(most) or not 1 <= most <= MOST_LABELS:
            raise BadCount(most)
        self.kind = kind
        self.most = most
        self.joins = Joins([], [])
        self.owned = {}
        self.leaves = None
        for key in keys:
            self.add(key)

    def add(self, key):
        """Adds a key, with all labels that are reached by it."""
        if not is_plain(key):
            raise BadValue(key)
        if key not in self.owned:
            label = own_label(self.kind, key)
            self.joins = closed_with(self.kind, self.joins, label, self.most)
            self.owned[key] = self.joins.spots[label]
            self.leaves = None

    def given(self):
        """The keys."""
        return by_repr(list(self.owned))

    def labels(self):
        """The reached labels."""
        return by_repr(self.joins.reached)

    def pairs(self):
        """The reached pairs (label, key)."""
        leaves = self.known_leaves()
        found = []
        for key, start in self.owned.items():
            found.extend([(self.joins.reached[at], key) for at in leaves.from_own(start)])
        return by_repr(found)

    def least(self, label):
        """The smallest number of leaves of a term with this value."""
        spot = self.spot_of(label)
        return self.known_leaves().terms[spot][0]

    def least_with(self, label, key):
        """The smallest number of leaves of a term with this value and with the key among its leaves."""
        found = self.terms_with(label, key)
        return found[self.joins.spots[label]][0]

    def spot_of(self, label):
        """The index of a reached label in the table of joins; an error for any other object."""
        if not self.has_label(label):
            raise NoLabel(label)
        return self.joins.spots[label]

    def terms_with(self, label, key):
        """What is known of the terms with the key among their leaves; an error if none of them has this value."""
        if not self.has_label(label) or not self.has_key(key):
            raise NoPair(label, key)
        found = self.known_leaves().from_own(self.owned[key])
        if self.joins.spots[label] not in found:
            raise NoPair(label, key)
        return found

    def has_label(self, thing):
        """Whether any object is a reached label."""
        return is_plain(thing) and thing in self.joins.spots

    def has_key(self, thing):
        """Whether any object is one of the keys."""
        return is_plain(thing) and thing in self.owned

    def known_leaves(self):
        """The least numbers of leaves, reckoned when they are asked for first behind a new key."""
        if self.leaves is None:
            self.leaves = Leaves(self.joins.rows, list(self.owned.values()))
        return self.leaves
