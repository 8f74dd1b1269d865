"""How a tree changes: a row is put or dropped, labels are tightened. Each makes new nodes."""

from kindgrove.errors import BadSplit
from kindgrove.labels import joined
from kindgrove.nodes import Entry, Node, entry_over, labels_in
from kindgrove.values import is_int


def root_with(tree, row, key):
    """The root of the tree with one row more, given as the entry for a leaf."""
    parts = nodes_with(tree, tree.root, row, key)
    if len(parts) == 1:
        return parts[0]
    return Node(False, [entry_over(tree.kind, part) for part in parts])


def nodes_with(tree, node, row, key):
    """The one or two nodes that stand in the place of the node when the row is below it."""
    if node.is_leaf:
        return divided(tree, Node(True, [*node.entries, row]))
    at = cheapest(tree.kind, node, key)
    chosen = node.entries[at]
    parts = nodes_with(tree, chosen.below, row, key)
    if len(parts) == 1:
        changed = [Entry(joined(tree.kind, chosen.label, row.label), parts[0])]
    else:
        changed = [entry_over(tree.kind, part) for part in parts]
    return divided(tree, Node(False, node.entries[:at] + changed + node.entries[at + 1:]))


def cheapest(kind, node, key):
    """The index of the first entry with the least penalty for the key."""
    costs = [kind.penalty(entry.label, key) for entry in node.entries]
    return costs.index(min(costs))


def divided(tree, node):
    """The node alone, or the two parts of one that has too many entries."""
    if len(node.entries) <= tree.most:
        return [node]
    sides = tree.kind.sides(labels_in(node))
    if not is_split(sides, len(node.entries)):
        raise BadSplit()
    return [part_of(node, sides, 0), part_of(node, sides, 1)]


def is_split(sides, many):
    """Whether any object tells a side for each of so many entries, and both sides occur."""
    if not isinstance(sides, (list, tuple)) or len(sides) != many:
        return False
    if not all([is_int(side) and 0 <= side <= 1 for side in sides]):
        return False
    return 0 in sides and 1 in sides


def part_of(node, sides, wanted):
    """A node with the entries that go into one of the two parts, in their order."""
    return Node(node.is_leaf, [entry for entry, side in zip(node.entries, sides) if side == wanted])


def root_without(root, number):
    """The root without a row; one leaf without rows if there is no other one."""
    rest = node_without(root, number)
    return rest if len(rest.entries) > 0 else Node(True, [])


def node_without(node, number):
    """The node without a row, and without the nodes below it in which nothing is left."""
    if node.is_leaf:
        return Node(True, [entry for entry in node.entries if entry.below != number])
    rest = [Entry(entry.label, node_without(entry.below, number)) for entry in node.entries]
    return Node(False, [entry for entry in rest if len(entry.below.entries) > 0])


def tightened(kind, node):
    """The node with each label below it made the fold, and how many labels became others."""
    if node.is_leaf:
        return (node, 0)
    entries = []
    many = 0
    for entry in node.entries:
        below, changes = tightened(kind, entry.below)
        fresh = entry_over(kind, below)
        entries.append(fresh)
        many += changes
        if fresh.label != entry.label:
            many += 1
    return (Node(False, entries), many)
