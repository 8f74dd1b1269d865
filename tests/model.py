"""A second, plain writing of [7.1] to [8.3], with nodes that are changed in place, to compare trees with."""


class ModelTree:
    """Leaves are lists of rows [own label, number], other nodes lists of entries [label, node]."""

    def __init__(self, kind, most):
        self.kind, self.most = kind, most
        self.levels, self.root, self.keys, self.next = 1, [], {}, 0

    def fold(self, node):
        label = node[0][0]
        for other, _ in node[1:]:
            label = self.kind.join(label, other)
        return label

    def put(self, key):
        number, own = self.next, self.kind.own(key)
        self.keys[number] = key
        self.next += 1
        node, way = self.root, []
        for _ in range(self.levels - 1):
            costs = [self.kind.penalty(label, key) for label, _ in node]
            at = min(range(len(costs)), key=lambda index: (costs[index], index))
            way.append((node, at))
            node = node[at][1]
        node.append([own, number])
        while len(node) > self.most:
            right = self.split(node)
            if not way:
                self.root = [[self.fold(node), node], [self.fold(right), right]]
                self.levels += 1
                return number
            node, at = way.pop()
            node[at][0] = self.fold(node[at][1])
            node.insert(at + 1, [self.fold(right), right])
        for node, at in way:
            node[at][0] = self.kind.join(node[at][0], own)
        return number

    def split(self, node):
        sides = self.kind.sides([label for label, _ in node])
        right = [entry for entry, side in zip(node, sides) if side]
        node[:] = [entry for entry, side in zip(node, sides) if not side]
        return right

    def drop(self, number):
        del self.keys[number]

        def clear(node, level):
            if level > 1:
                for _, below in node:
                    clear(below, level - 1)
                node[:] = [entry for entry in node if entry[1]]
            else:
                node[:] = [row for row in node if row[1] != number]

        clear(self.root, self.levels)
        if not self.root:
            self.levels = 1

    def tighten(self):
        def tight(node, level):
            if level == 1:
                return 0
            many = 0
            for entry in node:
                many += tight(entry[1], level - 1)
                label, entry[0] = entry[0], self.fold(entry[1])
                many += label != entry[0]
            return many

        return tight(self.root, self.levels)

    def view(self):
        def seen(node, level):
            if level == 1:
                return ("leaf", tuple(number for _, number in node))
            return ("node", tuple((label, seen(below, level - 1)) for label, below in node))

        return seen(self.root, self.levels)

    def account(self, question):
        """(numbers, left, paths of the nodes that are opened) of the search."""
        numbers, left, opened = [], [], []

        def read(node, level, path):
            opened.append(path)
            for at, (label, below) in enumerate(node):
                if level == 1 and self.kind.matches(self.keys[below], question):
                    numbers.append(below)
                elif level > 1 and self.kind.consistent(label, question):
                    read(below, level - 1, path + (at,))
                elif level > 1:
                    left.append((path + (at,), label))

        read(self.root, self.levels, ())
        return numbers, left, opened
