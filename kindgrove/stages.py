"""How far works in a yard have come. A stage is never changed when it is made; each step makes a new one."""

from kindgrove.deeds import ground_with_posted, ground_with_row, ground_with_widened
from kindgrove.ground import root_of
from kindgrove.growth import cheapest


class PutStage:
    """A put that goes down has the node that it reads next; one that goes up the level from which it goes on.

    new is the node that it has to post, if there is one. What does not apply is None.
    """

    def __init__(self, number, *, begun=False, done=False, node=None, level=None, new=None):
        self.number = number
        self.begun = begun
        self.done = done
        self.node = node
        self.level = level
        self.new = new

    def after(self, plan, ground):
        """The ground and the stage behind the next step."""
        if self.level is not None:
            return self.after_going_up(plan, ground)
        node = self.node if self.begun else root_of(ground)
        plot = ground.plots[node]
        if plot.level == 0:
            grown, new = ground_with_row(plan, ground, node, self.number)
            return (grown, self.stage_behind(ground, grown, 0, new))
        at = cheapest(plan.kind, plot, plan.row_keys[self.number])
        return (ground, PutStage(self.number, begun=True, node=plot.entries[at].below))

    def after_going_up(self, plan, ground):
        """The ground and the stage behind a step to the next level."""
        new = None
        if self.new is None:
            grown = ground_with_widened(plan, ground, self.number, self.level)
        else:
            grown, new = ground_with_posted(plan, ground, self.new)
        return (grown, self.stage_behind(ground, grown, self.level + 1, new))

    def stage_behind(self, ground, grown, level, new):
        """The stage behind a change at a level: the put is done at the level of the root, or if there is a new root."""
        if len(grown.levels) > len(ground.levels) or level + 1 == len(grown.levels):
            return PutStage(self.number, begun=True, done=True)
        return PutStage(self.number, begun=True, level=level, new=new)

    def sign(self, places):
        """What tells this stage from others of the same put, with the places of nodes in their place."""
        return (self.begun, self.done, places.get(self.node), self.level, places.get(self.new))


class SearchStage:
    """A search has a list of tuples (node, memo), and the numbers of the rows that it has told so far."""

    def __init__(self, wanted, *, begun=False, done=False, waiting=(), found=()):
        self.wanted = wanted
        self.begun = begun
        self.done = done
        self.waiting = waiting
        self.found = found

    def after(self, plan, ground):
        """The ground, which stays, and the stage behind the next step."""
        waiting = self.waiting if self.begun else ((root_of(ground), ground.ticks),)
        node, memo = waiting[0]
        plot = ground.plots[node]
        numbers = self.rows_told(plan, plot)
        further = [*waiting[1:], *[(below, ground.ticks) for below in self.nodes_added(plan, plot)]]
        if plan.has_links and (plot.is_open or plot.mark > memo):
            row = ground.levels[plot.level]
            further.append((row[row.index(node) + 1], memo))
        found = (*self.found, *numbers)
        done = len(further) == 0
        return (ground, SearchStage(self.wanted, begun=True, done=done, waiting=tuple(further), found=found))

    def rows_told(self, plan, plot):
        """The rows of a leaf that match."""
        if plot.level > 0:
            return []
        return [number for number in plot.entries if plan.kind.matches(plan.row_keys[number], self.wanted)]

    def nodes_added(self, plan, plot):
        """The nodes below the entries that are consistent."""
        if plot.level == 0:
            return []
        return [entry.below for entry in plot.entries if plan.kind.consistent(entry.label, self.wanted)]

    def sign(self, places):
        """What tells this stage from others of the same search, with the places of nodes in their place."""
        return (self.begun, self.done, tuple([(places[node], memo) for node, memo in self.waiting]), self.found)
