"""The nodes of a yard at one time, and what can be looked up in them.

Nodes are told by numbers, which they keep. A plot, which is what a node has at one time, is never changed when it is
made; a step of a put changes a copy of the ground.
"""

from kindgrove.labels import folded, own_label
from kindgrove.nodes import labels_in


class Plan:
    """What a yard goes by: its kind, how many entries a node may have, whether its nodes are linked, the puts' keys."""

    def __init__(self, kind, most, has_links):
        self.kind = kind
        self.most = most
        self.has_links = has_links
        self.row_keys = []


class Plot:
    """What a node has: in a leaf, which has the level 0, the numbers of rows, otherwise entries for nodes below it."""

    def __init__(self, level, entries, mark, is_open):
        self.level = level
        self.entries = entries
        self.mark = mark
        self.is_open = is_open


class Ground:
    """The plots of all nodes by their numbers, the nodes of each level from left to right, and the counter.

    What is told of a ground is reckoned once, when it is not changed any more.
    """

    def __init__(self, plots, levels, ticks):
        self.plots = plots
        self.levels = levels
        self.ticks = ticks
        self.told_text = None
        self.told_places = None

    def changeable(self):
        """An equal ground, to be changed."""
        return Ground(dict(self.plots), [list(row) for row in self.levels], self.ticks)

    def text(self):
        """The view and the counter as a text, equal for grounds in which these are equal."""
        if self.told_text is None:
            self.told_text = repr((self.ticks, view_of_ground(self)))
        return self.told_text

    def known_places(self):
        """For each node its level and its index there."""
        if self.told_places is None:
            self.told_places = {node: (level, at)
                                for level, row in enumerate(self.levels) for at, node in enumerate(row)}
        return self.told_places


def empty_ground():
    """A leaf without rows, the root."""
    return Ground({0: Plot(0, [], 0, False)}, [[0]], 0)


def root_of(ground):
    """The root: the only node of the highest level."""
    return ground.levels[-1][0]


def fold_over(plan, ground, nodes):
    """The fold of all labels in a row of nodes."""
    return folded(plan.kind, [label for node in nodes for label in labels_at(plan, ground.plots[node])])


def labels_at(plan, plot):
    """The labels in a node; that of a row is own of its key."""
    if plot.level == 0:
        return [own_label(plan.kind, plan.row_keys[number]) for number in plot.entries]
    return labels_in(plot)


def posted_nodes(ground, level):
    """The nodes of a level that some entry has, or the root, as the keys of a dict."""
    if level + 1 == len(ground.levels):
        return {root_of(ground): True}
    return {entry.below: True for upper in ground.levels[level + 1] for entry in ground.plots[upper].entries}


def head_of(ground, node):
    """The nearest posted node at a node or to the left of it."""
    level = ground.plots[node].level
    posted = posted_nodes(ground, level)
    row = ground.levels[level]
    at = row.index(node)
    while row[at] not in posted:
        at -= 1
    return row[at]


def entry_of(ground, node):
    """The node in which the entry with a posted node stands, and the index of this entry."""
    level = ground.plots[node].level + 1
    return [(upper, at) for upper in ground.levels[level] for at, entry in enumerate(ground.plots[upper].entries)
            if entry.below == node][0]


def holder_of(ground, number, level):
    """The holder of a row at a level: the leaf that has it, or what has the entry with the head of the holder below."""
    node = [leaf for leaf in ground.levels[0] if number in ground.plots[leaf].entries][0]
    for below in range(level):
        node, at = entry_of(ground, head_of(ground, node))
    return node


def view_of_ground(ground):
    """A list for each level, the leaves first, with (entries, mark, is_open, is_posted) for each node."""
    places = ground.known_places()
    return [view_of_level(ground, level, places) for level in range(len(ground.levels))]


def view_of_level(ground, level, places):
    """The nodes of a level as a yard tells them."""
    posted = posted_nodes(ground, level)
    plots = [ground.plots[node] for node in ground.levels[level]]
    told = [(entries_of(plot, places), plot.mark, plot.is_open) for plot in plots]
    return [(*parts, node in posted) for parts, node in zip(told, ground.levels[level])]


def entries_of(plot, places):
    """The entries of a node as a yard tells them: above the leaves a label, and the index of a node one level lower."""
    if plot.level == 0:
        return tuple(plot.entries)
    return tuple([(entry.label, places[entry.below][1]) for entry in plot.entries])
