"""Shapes: nested lists that tell which nodes a packed tree has, and which keys stand in them."""

from kindgrove.errors import BadShape, TooLarge
from kindgrove.nodes import Node, entry_over
from kindgrove.values import is_plain

HIGHEST = 60
MOST_ROWS = 500


def lists_by_level(shape, most):
    """The lists of a shape for each level, the outermost list first; an error if it is no shape."""
    height = height_of(shape)
    if height > HIGHEST:
        raise TooLarge()
    wrong = first_wrong(shape, (), height, most)
    if wrong is not None:
        raise BadShape(wrong)
    levels = [[shape]]
    lists = [shape]
    while len(levels) < height:
        lists = [part for upper in lists for part in upper]
        levels.append(lists)
    if sum([len(leaf) for leaf in lists]) > MOST_ROWS:
        raise TooLarge()
    return levels


def height_of(shape):
    """The number of lists from the outermost one on along each first element; 1 for what is no list at all.

    A list may contain itself: the count ends as soon as it is too great.
    """
    many = 1
    while many <= HIGHEST and isinstance(shape, list) and len(shape) > 0 and isinstance(shape[0], list):
        shape = shape[0]
        many += 1
    return many


def first_wrong(thing, path, height, most):
    """The path of the first thing that is wrong, or None; height is that which the thing has to have."""
    if height == 0:
        return None if is_plain(thing) else path
    if not isinstance(thing, list) or len(thing) > most:
        return path
    if len(thing) == 0 and path != ():
        return path
    for at, part in enumerate(thing):
        wrong = first_wrong(part, (*path, at), height - 1, most)
        if wrong is not None:
            return wrong
    return None


def packed_root(kind, levels, rows):
    """The root over the entries of rows, with nodes as the lists of each level tell."""
    nodes = cut_up(True, rows, levels[-1])
    for lists in levels[:-1][::-1]:
        entries = [entry_over(kind, node) for node in nodes]
        nodes = cut_up(False, entries, lists)
    return nodes[0]


def cut_up(is_leaf, entries, lists):
    """The nodes that take up the entries, each as many as its list is long."""
    nodes = []
    start = 0
    for part in lists:
        end = start + len(part)
        nodes.append(Node(is_leaf, entries[start:end]))
        start = end
    return nodes
