"""Kinds for the tests."""

import re

from kindgrove.both import Both
from kindgrove.counted import Counted
from kindgrove.errors import BadValue
from kindgrove.grids import Grid
from kindgrove.kinds import Kind, Measured
from kindgrove.ranges import Boxes, Ranges
from kindgrove.reach import Reach
from kindgrove.trees import Tree
from kindgrove.yards import Yard


class Texts(Kind):
    """Labels that write out the very term whose value they are; a question is a key.

    penalty and sides are arbitrary, but the same for equal arguments.
    """

    def own(self, key):
        return f"{key}"

    def join(self, one, other):
        return f"({one} {other})"

    def consistent(self, label, question):
        return question in keys_in(label)

    def matches(self, key, question):
        return key == question

    def penalty(self, label, key):
        return (len(label) * 7 + sum(keys_in(label)) * 3 + key * 5) % 11

    def sides(self, labels):
        sides = [(len(label) + sum(keys_in(label))) % 2 for label in labels]
        if len(set(sides)) == 1:
            sides[sum(keys_in(labels[0])) % len(labels)] ^= 1
        return tuple(sides) if len(labels) % 2 else sides


def keys_in(label):
    """The keys that stand in a label of Texts."""
    return [int(word) for word in re.findall(r"-?\d+", label)]


class Noting:
    """Notes each call of another kind's functions as (name, arguments). No subclass of Kind on purpose."""

    def __init__(self, kind):
        self.kind = kind
        self.calls = []

    def note(self, name, *told):
        self.calls.append((name, told))
        return getattr(self.kind, name)(*told)

    def own(self, *told):
        return self.note("own", *told)

    def join(self, *told):
        return self.note("join", *told)

    def consistent(self, *told):
        return self.note("consistent", *told)

    def matches(self, *told):
        return self.note("matches", *told)

    def penalty(self, *told):
        return self.note("penalty", *told)

    def sides(self, labels):
        return self.note("sides", list(labels))

    def named(self, name):
        """The arguments of the calls of one function, in order."""
        return [told for called, told in self.calls if called == name]

    def names(self):
        return {called for called, told in self.calls}


class Replacing(Kind):
    """Another kind, but for what a dict {(name, arguments): result} tells."""

    def __init__(self, kind, results):
        self.kind = kind
        self.results = results

    def told(self, name, *told):
        if (name, told) in self.results:
            return self.results[name, told]
        return getattr(self.kind, name)(*told)

    def own(self, key):
        return self.told("own", key)

    def join(self, one, other):
        return self.told("join", one, other)

    def consistent(self, label, question):
        return self.told("consistent", label, question)

    def matches(self, key, question):
        return self.told("matches", key, question)

    def penalty(self, label, key):
        return self.told("penalty", label, key)


class Divided(Ranges):
    """Ranges whose sides returns, call by call, what a list tells; then the sides of Ranges."""

    def __init__(self, answers):
        self.answers = answers
        self.asked = []

    def sides(self, labels):
        self.asked.append(labels)
        return self.answers.pop(0) if self.answers else super().sides(labels)


def snapshot(tree):
    """All that can be told of a tree without asking its kind."""
    numbers = tree.numbers()
    keys = [tree.key_of(number) for number in numbers]
    return (tree.view(), tree.shape(), numbers, keys, len(tree), bool(tree), tree.height)


def nested(depth, middle):
    """The middle inside so many lists."""
    for _ in range(depth):
        middle = [middle]
    return middle


def odd_things():
    """Objects of the built-in types and of the package that are no tuple, list, integer or string of use."""
    deep_tuple, deep_list = (), []
    for _ in range(2000):
        deep_tuple, deep_list = (deep_tuple,), [deep_list]
    return [
        None, True, False, -1, 10 ** 30, 0.0, 1.0, float("nan"), 1j, "", "0", b"", b"0", bytearray(b"0"),
        (), (0,), [], [0], {}, {0: 0}, set(), {0}, frozenset([0]), range(2), slice(1), iter([]), object(), object,
        int, len, Ellipsis, NotImplemented, ValueError(), memoryview(b"0"), (x for x in []), lambda: 0,
        deep_tuple, deep_list, ((True,),), ([0], []), Ranges(), Kind(), Measured(), Boxes(), Grid(), Grid(0),
        Counted(len, 1), Reach(Ranges(), [0]), Tree(Ranges()), BadValue(0), Grid, Ranges, Both(Ranges(), Kind()),
        Yard(Ranges()), Yard(Ranges()).put(0), Yard(Ranges()).seek(0),
    ]
