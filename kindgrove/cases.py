"""A kind with some keys and questions, and what is known of it there.

Sets of keys and of questions are told by the bits of an integer: what has the index n has the bit 1 << n.
"""

from kindgrove.errors import BadValue
from kindgrove.reach import Reach
from kindgrove.values import is_plain


class Case:
    """A kind, the reach of some keys, and some questions, each one once."""

    def __init__(self, kind, keys, questions):
        check_values(keys)
        check_values(questions)
        self.kind = kind
        self.reach = Reach(kind, keys)
        self.reached = self.reach.joins.reached
        self.asked = distinct(questions)

    def lets_by(self):
        """For each reached label the questions with which it is consistent."""
        kind = self.kind
        return [bits_of([kind.consistent(label, question) for question in self.asked]) for label in self.reached]


class Needs:
    """What a case asks of each rule with which its kind is exact.

    below has for each reached label the keys that form a pair with it, matched for each question the keys that match
    it, and sharp the indexes (label, question) of all places at which both have a key in common.
    """

    def __init__(self, case):
        self.below = keys_below(case.reach)
        self.matched = matching_keys(case.kind, list(case.reach.owned), case.asked)
        self.sharp = [(spot, at) for spot, bits in enumerate(self.below) for at, matched in enumerate(self.matched)
                      if bits & matched]


def check_values(things):
    """An error for the first of some things that is not a plain value."""
    for thing in things:
        if not is_plain(thing):
            raise BadValue(thing)


def distinct(things):
    """Plain values, each one once."""
    return list({thing: True for thing in things})


def matching_keys(kind, keys, questions):
    """For each question the keys that match it."""
    return [bits_of([kind.matches(key, question) for key in keys]) for question in questions]


def keys_below(reach):
    """For each label of a reach the keys that form a pair with it."""
    below = [0 for label in reach.joins.reached]
    leaves = reach.known_leaves()
    for at, start in enumerate(list(reach.owned.values())):
        for spot in leaves.from_own(start):
            below[spot] = below[spot] | (1 << at)
    return below


def bits_of(flags):
    """The bits at whose indexes the flags are True."""
    return sum([1 << at for at, flag in enumerate(flags) if flag])


def indexes_in(bits):
    """The indexes of the bits that are set, ascending."""
    return [at for at in range(bits.bit_length()) if (bits >> at) & 1]
