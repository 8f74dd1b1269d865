"""Accounts of searches: what a search found, and which entries it left out."""

from kindgrove.values import is_int, is_plain


def entries_left_out(visits):
    """The entries (path, label) of the nodes that were visited below which no node was, by their paths.

    A visit is a path and the node to which it leads.
    """
    visited = {path: True for path, node in visits}
    left = []
    for path, node in visits:
        if not node.is_leaf:
            entries = [((*path, at), entry.label) for at, entry in enumerate(node.entries)]
            left.extend([(further, label) for further, label in entries if further not in visited])
    return by_path(left)


def by_path(left):
    """Entries (path, label) in ascending order of their paths."""
    return sorted(left, key=path_of)


def path_of(pair):
    """The path of an entry (path, label)."""
    return pair[0]


def has_form(thing):
    """Whether any object has the form of an account, in some tree."""
    if not isinstance(thing, tuple) or len(thing) != 2:
        return False
    numbers, left = thing
    if not isinstance(numbers, list) or not isinstance(left, list):
        return False
    return are_ints(numbers) and all([is_left_entry(pair) for pair in left])


def is_left_entry(pair):
    """Whether any object is a tuple of a path and a label."""
    if not isinstance(pair, tuple) or len(pair) != 2:
        return False
    path, label = pair
    return isinstance(path, tuple) and are_ints(path) and is_plain(label)


def are_ints(things):
    """Whether all elements of a list or tuple are integers."""
    return all([is_int(thing) for thing in things])
