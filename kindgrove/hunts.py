"""Hunts for the rows of a tree that are nearest to a point."""


class Hunt:
    """Opens nodes by what their labels promise, until the rows found so far are nearer than all others can be.

    best has the nearest rows found so far as (distance, number), paths those of the nodes that were opened. waiting has
    (bound, path, node) for each node that was met and not opened.
    """

    def __init__(self, tree, point, many, bound_of):
        self.tree = tree
        self.point = point
        self.many = many
        self.bound_of = bound_of
        self.best = []
        self.paths = []
        self.waiting = []

    def go_on(self):
        """Opens the root and all that has to be opened below it."""
        if self.many == 0:
            return
        self.enter((), self.tree.root)
        while self.leads_on():
            least = min([bound for bound, path, node in self.waiting])
            batch = [place for place in self.waiting if place[0] == least]
            self.waiting = [place for place in self.waiting if place[0] != least]
            for bound, path, node in batch:
                self.enter(path, node)

    def enter(self, path, node):
        """Opens a node."""
        self.paths.append(path)
        if node.is_leaf:
            kind = self.tree.kind
            stored = self.tree.stored
            rows = [(kind.distance(stored[entry.below], self.point), entry.below) for entry in node.entries]
            self.best = sorted(self.best + rows)[:self.many]
        else:
            for at, entry in enumerate(node.entries):
                self.waiting.append((self.bound_of(entry.label), (*path, at), entry.below))

    def leads_on(self):
        """Whether some waiting node may have a row that is wanted.

        A node that promises just the distance of the last row is opened, too: a row below may have a lower number.
        """
        if len(self.waiting) == 0:
            return False
        if len(self.best) < self.many:
            return True
        return min([bound for bound, path, node in self.waiting]) <= self.best[-1][0]
