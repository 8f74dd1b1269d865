"""Search trees over the keys of any kind."""

from kindgrove.accounts import by_path, entries_left_out, has_form
from kindgrove.errors import BadCount, BadValue, NoRow
from kindgrove.growth import root_with, root_without, tightened
from kindgrove.labels import own_label
from kindgrove.nodes import Entry, Node, levels_of, numbers_by_shape, view_of, walk
from kindgrove.shapes import lists_by_level, packed_root
from kindgrove.values import is_int, is_plain

LEAST_WIDTH = 2
GREATEST_WIDTH = 50


class Tree:
    """Rows with keys of one kind, below nodes that have a label for all keys below them.

    A change makes a new root and takes it over at its end: a call that raises an error changes nothing.
    """

    def __init__(self, kind, *, most=4):
        if not is_int(most) or not LEAST_WIDTH <= most <= GREATEST_WIDTH:
            raise BadCount(most)
        self.kind = kind
        self.most = most
        self.root = Node(True, [])
        self.stored = {}
        self.next_number = 0

    @classmethod
    def packed(cls, kind, shape, *, most=4):
        """A tree with nodes and rows as a shape tells."""
        tree = cls(kind, most=most)
        levels = lists_by_level(shape, most)
        keys = [key for leaf in levels[-1] for key in leaf]
        rows = [Entry(own_label(kind, key), number) for number, key in enumerate(keys)]
        tree.root = packed_root(kind, levels, rows)
        tree.stored = {number: key for number, key in enumerate(keys)}
        tree.next_number = len(keys)
        return tree

    def put(self, key):
        """Puts a row into the tree and returns its number."""
        if not is_plain(key):
            raise BadValue(key)
        number = self.next_number
        row = Entry(own_label(self.kind, key), number)
        self.root = root_with(self, row, key)
        self.stored[number] = key
        self.next_number = number + 1
        return number

    def drop(self, number):
        """Removes a row; the labels stay as they are."""
        if number not in self:
            raise NoRow(number)
        self.root = root_without(self.root, number)
        del self.stored[number]

    def tighten(self):
        """Gives each entry the fold of what stands below it; returns how many labels became others."""
        root, many = tightened(self.kind, self.root)
        self.root = root
        return many

    def key_of(self, number):
        """The key of a row."""
        if number not in self:
            raise NoRow(number)
        return self.stored[number]

    def __contains__(self, x):
        return is_int(x) and x in self.stored

    def __len__(self):
        return len(self.stored)

    def __bool__(self):
        return bool(self.stored)

    def numbers(self):
        """The numbers of the rows, ascending."""
        return sorted(list(self.stored))

    @property
    def height(self):
        """The number of levels of nodes: 1 if the root is a leaf."""
        return levels_of(self.root)

    def shape(self):
        """The tree as nested lists of the numbers of its rows."""
        return numbers_by_shape(self.root)

    def view(self):
        """The tree as nested tuples, with its labels and the numbers of its rows."""
        return view_of(self.root)

    def copy(self):
        """An equal tree that goes its own way from here on."""
        twin = Tree(self.kind, most=self.most)
        twin.root = self.root
        twin.stored = dict(self.stored)
        twin.next_number = self.next_number
        return twin

    def search(self, question, rule=None):
        """Yields the numbers of the rows that a search for the question finds, in its order."""
        lets_by = self.entry_test(question, rule)
        for path, node in walk(self.root, (), lets_by):
            if node.is_leaf:
                for entry in node.entries:
                    if self.row_matches(entry.below, question):
                        yield entry.below

    def opened(self, question, rule=None):
        """The paths of the nodes that a search opens, in its order."""
        lets_by = self.entry_test(question, rule)
        return [path for path, node in walk(self.root, (), lets_by)]

    def lost(self, question, rule=None):
        """The numbers of the rows that match and that a search does not find, ascending."""
        told = {number: True for number in self.search(question, rule)}
        return [number for number in self.numbers() if number not in told and self.row_matches(number, question)]

    def account(self, question):
        """The numbers that a search finds, and the entries (path, label) that it leaves out."""
        lets_by = self.entry_test(question, None)
        visits = list(walk(self.root, (), lets_by))
        return (self.matching_rows(visits, question), entries_left_out(visits))

    def is_account(self, question, thing):
        """Whether any object is an account of a search in this tree."""
        if not has_form(thing):
            return False
        numbers, left = thing
        cut = {path: True for path, label in left}
        visits = list(walk(self.root, (), lambda path, label: path not in cut))
        # A walk does not come to a path that leads nowhere or on from another one, and to none twice.
        if by_path(left) != entries_left_out(visits):
            return False
        if any([self.kind.consistent(label, question) for path, label in left]):
            return False
        return numbers == self.matching_rows(visits, question)

    def entry_test(self, question, rule):
        """Tells by path and label whether a search opens an entry: by the rule, or the kind if it is None."""
        if rule is None:
            return lambda path, label: self.kind.consistent(label, question)
        return lambda path, label: rule(label, question)

    def row_matches(self, number, question):
        """Whether the key of a row matches."""
        return self.kind.matches(self.stored[number], question)

    def matching_rows(self, visits, question):
        """The numbers of the rows that match in the leaves that were visited, in their order."""
        leaves = [node for path, node in visits if node.is_leaf]
        rows = [entry.below for leaf in leaves for entry in leaf.entries]
        return [number for number in rows if self.row_matches(number, question)]
