"""[4.1] to [4.3] in another way: plain fixpoints, and terms by their numbers of leaves, to compare reaches with."""

import random

from kindgrove.kinds import Calls


def plain_reach(kind, keys):
    """The reached labels and the reached pairs, as sets."""
    labels = {kind.own(key) for key in keys}
    pairs = {(kind.own(key), key) for key in keys}
    while True:
        more = {kind.join(one, other) for one in labels for other in labels}
        further = {(label, key) for one, key in pairs for other in labels
                   for label in (kind.join(one, other), kind.join(other, one))}
        if more <= labels and further <= pairs:
            return labels, pairs
        labels |= more
        pairs |= further


def plain_least(kind, keys):
    """Dicts of the least numbers for labels and for pairs: lessened until nothing is lessened any more."""
    labels, pairs = plain_reach(kind, keys)
    least = {kind.own(key): 1 for key in keys}
    least_with = {(kind.own(key), key): 1 for key in keys}
    changed = True
    while changed:
        changed = False
        for one in list(least):
            for other in list(least):
                changed |= lessened(least, kind.join(one, other), least[one] + least[other])
        for one, key in list(least_with):
            for other in list(least):
                many = least_with[one, key] + least[other]
                changed |= lessened(least_with, (kind.join(one, other), key), many)
                changed |= lessened(least_with, (kind.join(other, one), key), many)
    assert set(least) == labels and set(least_with) == pairs
    return least, least_with


def lessened(numbers, at, many):
    if at in numbers and numbers[at] <= many:
        return False
    numbers[at] = many
    return True


def terms(kind, keys, most):
    """For each number of leaves up to most the set of (value, the keys among the leaves) of all terms with so many."""
    found = {1: {(kind.own(key), frozenset([key])) for key in keys}}
    for many in range(2, most + 1):
        found[many] = {(kind.join(one, other), some | more) for first in range(1, many)
                       for one, some in found[first] for other, more in found[many - first]}
    return found


def table_kind(seed, size, many):
    """A kind of arbitrary labels and joins, and its keys."""
    chance = random.Random(seed)
    labels = [chance.choice([at, f"label {at}", (at, None)]) for at in range(size)]
    joins = {(one, other): chance.choice(labels) for one in labels for other in labels}
    if seed % 3 == 0:
        # Few labels are joins of unlike ones, so that long terms are needed.
        joins = {(one, other): labels[0] for one in labels for other in labels}
        for at, label in enumerate(labels):
            joins[label, label] = labels[(at + 1) % size]
            joins[label, labels[(at + 3) % size]] = labels[(at + 2) % size]
    own = {key: chance.choice(labels) for key in range(many)}
    return table_calls(own, joins), list(own)


def table_calls(own, joins):
    return Calls(own=lambda key: own[key], join=lambda one, other: joins[one, other], consistent=None, matches=None)
