"""What the steps of a put do in a yard. Each makes a new ground: an error leaves the old one as it was."""

from kindgrove.ground import Plot, entry_of, fold_over, head_of, holder_of
from kindgrove.labels import joined, own_label
from kindgrove.nodes import Entry


def ground_with_row(plan, ground, leaf, number):
    """The ground with a row behind those of a leaf, and the new node that has to be posted, or None."""
    grown = ground.changeable()
    set_entries(grown, leaf, [*ground.plots[leaf].entries, number])
    return (grown, divided_off(plan, grown, leaf))


def ground_with_posted(plan, ground, node):
    """The ground with an entry for a node that has none, and the new node that has to be posted next, or None."""
    row = ground.levels[ground.plots[node].level]
    at = row.index(node)
    head = head_of(ground, node)
    upper, spot = entry_of(ground, head)
    lower = Entry(fold_over(plan, ground, row[row.index(head):at]), head)
    fresh = Entry(fold_over(plan, ground, with_open_ones(ground, row, at)), node)
    grown = ground.changeable()
    entries = ground.plots[upper].entries
    set_entries(grown, upper, [*entries[:spot], lower, fresh, *entries[spot + 1:]])
    further = divided_off(plan, grown, upper)
    grown.ticks += 1
    left = grown.plots[row[at - 1]]
    grown.plots[row[at - 1]] = Plot(left.level, left.entries, grown.ticks, False)
    return (grown, further)


def ground_with_widened(plan, ground, number, level):
    """The ground with the row's own label joined to the entry for its holder at a level."""
    upper, spot = entry_of(ground, head_of(ground, holder_of(ground, number, level)))
    entries = ground.plots[upper].entries
    label = joined(plan.kind, entries[spot].label, own_label(plan.kind, plan.row_keys[number]))
    grown = ground.changeable()
    set_entries(grown, upper, [*entries[:spot], Entry(label, entries[spot].below), *entries[spot + 1:]])
    return grown


def set_entries(grown, node, entries):
    """Gives a node of a ground that may be changed other entries."""
    plot = grown.plots[node]
    grown.plots[node] = Plot(plot.level, entries, plot.mark, plot.is_open)


def with_open_ones(ground, row, at):
    """A node of a row and, as long as the last one is open, the next one to the right."""
    end = at + 1
    while ground.plots[row[end - 1]].is_open:
        end += 1
    return row[at:end]


def divided_off(plan, grown, node):
    """Divides a node that has too many entries, in a ground that may be changed.

    The new node is returned if it has to be posted: not if the node was the root, over which a new root is made.
    """
    plot = grown.plots[node]
    if len(plot.entries) <= plan.most:
        return None
    half = len(plot.entries) // 2
    fresh = len(grown.plots)
    grown.plots[node] = Plot(plot.level, plot.entries[:half], plot.mark, True)
    grown.plots[fresh] = Plot(plot.level, plot.entries[half:], plot.mark, plot.is_open)
    row = grown.levels[plot.level]
    row.insert(row.index(node) + 1, fresh)
    if plot.level + 1 < len(grown.levels):
        return fresh
    make_root(plan, grown, node, fresh)
    return None


def make_root(plan, grown, node, fresh):
    """Makes a new root over the old one and the node that was divided off from it."""
    entries = [Entry(fold_over(plan, grown, [part]), part) for part in (node, fresh)]
    grown.ticks += 1
    for part, mark in ((node, grown.ticks), (fresh, grown.plots[fresh].mark)):
        plot = grown.plots[part]
        grown.plots[part] = Plot(plot.level, plot.entries, mark, False)
    root = len(grown.plots)
    grown.plots[root] = Plot(grown.plots[node].level + 1, entries, 0, False)
    grown.levels.append([root])
