"""[11.1] to [11.8] a second time: nodes that are changed in place and know their right neighbour.

Steps of works are done by step(work); what cannot fail in a yard is not provided for here.
"""


class Node:

    def __init__(self, level):
        self.level, self.entries, self.mark, self.is_open, self.right = level, [], 0, False, None


class ModelYard:

    def __init__(self, kind, most, linked=True):
        self.kind, self.most, self.linked = kind, most, linked
        self.counter, self.keys = 0, []
        self.left = [Node(0)]

    def put(self, key):
        self.keys.append(key)
        return ModelWork(self, number=len(self.keys) - 1)

    def seek(self, question):
        return ModelWork(self, question=question, told=[])

    def row(self, level):
        """The nodes of a level from left to right."""
        nodes, node = [], self.left[level]
        while node:
            nodes.append(node)
            node = node.right
        return nodes

    @property
    def root(self):
        return self.left[-1]

    def is_posted(self, node):
        if node is self.root:
            return True
        return node.level + 1 < len(self.left) and any(
            below is node for upper in self.row(node.level + 1) for _, below in upper.entries)

    def head(self, node):
        row = self.row(node.level)
        return [held for held in row[:row.index(node) + 1] if self.is_posted(held)][-1]

    def fold(self, nodes):
        labels = []
        for node in nodes:
            labels += [self.kind.own(self.keys[entry]) if node.level == 0 else entry[0] for entry in node.entries]
        label = labels[0]
        for other in labels[1:]:
            label = self.kind.join(label, other)
        return label

    def upper_of(self, node):
        """The node with the entry for a node, and the index of the entry."""
        for upper in self.row(node.level + 1):
            for at, (_, below) in enumerate(upper.entries):
                if below is node:
                    return upper, at
        raise AssertionError("not posted")

    def divide(self, node):
        """The new node to be posted, or None; None too if a new root is made."""
        if len(node.entries) <= self.most:
            return None
        new, half = Node(node.level), len(node.entries) // 2
        new.entries, node.entries = node.entries[half:], node.entries[:half]
        new.mark, new.is_open, new.right = node.mark, node.is_open, node.right
        node.is_open, node.right = True, new
        if node is not self.root:
            return new
        root = Node(node.level + 1)
        root.entries = [(self.fold([node]), node), (self.fold([new]), new)]
        self.left.append(root)
        node.is_open = new.is_open = False
        self.counter += 1
        node.mark = self.counter
        return None

    def view(self):
        levels = []
        for level in range(len(self.left)):
            below = self.row(level - 1) if level else []
            levels.append([(tuple(node.entries) if level == 0 else tuple((label, below.index(held))
                                                                         for label, held in node.entries),
                            node.mark, node.is_open, self.is_posted(node)) for node in self.row(level)])
        return levels

    def place(self, node):
        return None if node is None else (node.level, self.row(node.level).index(node))


class ModelWork:

    def __init__(self, yard, number=None, question=None, told=None):
        self.yard, self.number, self.question, self.told = yard, number, question, told
        self.is_begun = self.is_done = False
        self.node = self.level = self.new = None
        self.waiting, self.earlier = [], None

    def step(self):
        assert not self.is_done
        if self.number is None:
            self.step_of_search()
        elif self.level is None:
            self.step_down()
        else:
            self.step_up()
        self.is_begun = True
        return self.is_done

    def step_of_search(self):
        yard = self.yard
        if not self.is_begun:
            self.waiting.append((yard.root, yard.counter))
        node, memo = self.waiting.pop(0)
        if node.level == 0:
            self.told += [number for number in node.entries if yard.kind.matches(yard.keys[number], self.question)]
        else:
            self.waiting += [(below, yard.counter) for label, below in node.entries
                             if yard.kind.consistent(label, self.question)]
        if yard.linked and (node.is_open or node.mark > memo):
            self.waiting.append((node.right, memo))
        self.is_done = not self.waiting

    def step_down(self):
        yard, key = self.yard, self.yard.keys[self.number]
        node = self.node if self.is_begun else yard.root
        if node.level > 0:
            costs = [yard.kind.penalty(label, key) for label, _ in node.entries]
            self.node = node.entries[costs.index(min(costs))][1]
            return
        self.is_done = node is yard.root
        node.entries.append(self.number)
        self.node, self.new, self.level = None, yard.divide(node), 0

    def step_up(self):
        yard, before = self.yard, len(self.yard.left)
        if self.new is not None:
            self.new = self.post(self.new)
        else:
            holder = [leaf for leaf in yard.row(0) if self.number in leaf.entries][0]
            for _ in range(self.level):
                holder = yard.upper_of(yard.head(holder))[0]
            upper, at = yard.upper_of(yard.head(holder))
            label, below = upper.entries[at]
            upper.entries[at] = (yard.kind.join(label, yard.kind.own(yard.keys[self.number])), below)
        self.level += 1
        self.is_done = len(yard.left) > before or self.level == len(yard.left) - 1

    def post(self, new):
        yard, row = self.yard, self.yard.row(new.level)
        at, head = row.index(new), yard.head(new)
        upper, spot = yard.upper_of(head)
        following = [new]
        while following[-1].is_open:
            following.append(following[-1].right)
        entry = (yard.fold(following), new)
        upper.entries[spot] = (yard.fold(row[row.index(head):at]), head)
        upper.entries.insert(spot + 1, entry)
        further = yard.divide(upper)
        row[at - 1].is_open = False
        yard.counter += 1
        row[at - 1].mark = yard.counter
        return further

    def sign(self):
        """What [11.12] says of a work in a state."""
        place = self.yard.place
        if self.is_done:
            return (True, True, tuple(self.told or ()), self.earlier)
        if self.number is not None:
            return (self.is_begun, False, place(self.node), self.level, place(self.new))
        return (self.is_begun, False, tuple((place(node), memo) for node, memo in self.waiting), tuple(self.told),
                self.earlier)
