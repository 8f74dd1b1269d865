"""The nodes of a tree, and what can be read off them.

A node and its entries are never changed when they are made: trees share them, and a change makes new ones.
"""

from kindgrove.labels import folded


class Entry:
    """A label, and what stands below it: a node, or in a leaf the number of a row."""

    def __init__(self, label, below):
        self.label = label
        self.below = below


class Node:
    """A leaf, whose entries are rows labelled by own of their keys, or a node with nodes below it."""

    def __init__(self, is_leaf, entries):
        self.is_leaf = is_leaf
        self.entries = entries


def entry_over(kind, node):
    """A new entry for a node, with the fold of its labels."""
    return Entry(folded(kind, labels_in(node)), node)


def labels_in(node):
    """The labels of the entries of a node, as a new list."""
    return [entry.label for entry in node.entries]


def levels_of(node):
    """The number of levels of nodes, the node's own one and the leaves counted."""
    many = 1
    while not node.is_leaf:
        node = node.entries[0].below
        many += 1
    return many


def view_of(node):
    """The node and all below it as nested tuples, with labels."""
    if node.is_leaf:
        return ("leaf", tuple([entry.below for entry in node.entries]))
    return ("node", tuple([(entry.label, view_of(entry.below)) for entry in node.entries]))


def numbers_by_shape(node):
    """The node and all below it as nested lists of the numbers of rows."""
    if node.is_leaf:
        return [entry.below for entry in node.entries]
    return [numbers_by_shape(entry.below) for entry in node.entries]


def walk(node, path, lets_by):
    """Goes through the nodes that a search opens, in its order: yields each with its path.

    lets_by tells by the path and the label of an entry whether the node below it is opened.
    """
    yield (path, node)
    if not node.is_leaf:
        for at, entry in enumerate(node.entries):
            further = (*path, at)
            if lets_by(further, entry.label):
                yield from walk(entry.below, further, lets_by)
