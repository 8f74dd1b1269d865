"""[8.1], [8.2] Searches, the nodes that they open, and the rows that they lose."""

import types
import unittest

from sample_kinds import Noting, Replacing, Texts, snapshot

from kindgrove.ranges import Ranges
from kindgrove.trees import Tree

SHAPE = [[[3, 8], [20, 21, 25]], [[4, 6], [30]], [[9]]]


class Falsy:
    """A rule that is False itself, and lets everything by."""

    def __bool__(self):
        return False

    def __call__(self, label, question):
        return True


class SearchTest(unittest.TestCase):

    def setUp(self):
        self.kind = Noting(Ranges())
        self.tree = Tree.packed(self.kind, SHAPE)
        self.kind.calls.clear()

    def test_numbers(self):
        self.assertEqual(list(self.tree.search((5, 20))), [1, 2, 6, 8])
        self.assertEqual(list(self.tree.search((4, 4))), [5])
        self.assertEqual(list(self.tree.search((5, 4))), [])
        self.assertEqual(list(self.tree.search((-9, 99))), list(range(9)))
        self.assertEqual(list(Tree(Ranges()).search((0, 9))), [])

    def test_it_is_a_generator(self):
        found = self.tree.search((5, 20))
        self.assertIsInstance(found, types.GeneratorType)
        self.assertEqual(self.kind.calls, [])
        self.assertEqual([next(found), next(found)], [1, 2])
        self.assertEqual(list(found), [6, 8])

    def test_rows_come_in_the_order_in_which_they_stand(self):
        tree = Tree.packed(Ranges(), [[1, 2], [8, 9]], most=2)
        tree.put(3)
        self.assertEqual(list(tree.search((0, 9))), flat(tree.shape()))
        self.assertNotEqual(flat(tree.shape()), [0, 1, 2, 3, 4])

    def test_kind_is_asked_once_for_each_entry_and_row(self):
        list(self.tree.search((5, 20)))
        labels = [(3, 25), (4, 30), (9, 9), (3, 8), (20, 25), (4, 6), (30, 30), (9, 9)]
        self.assertEqual(sorted(self.kind.named("consistent")), sorted((label, (5, 20)) for label in labels))
        keys = [3, 8, 20, 21, 25, 4, 6, 9]
        self.assertEqual(sorted(self.kind.named("matches")), sorted((key, (5, 20)) for key in keys))
        self.assertEqual(self.kind.names(), {"consistent", "matches"})

    def test_entries_are_asked_in_order_each_node_below_ahead_of_the_next_one(self):
        list(self.tree.search((5, 20)))
        told = [told[0] for name, told in self.kind.calls]
        wanted = [(3, 25), (3, 8), 3, 8, (20, 25), 20, 21, 25, (4, 30), (4, 6), 4, 6, (30, 30), (9, 9), (9, 9), 9]
        self.assertEqual(told, wanted)

    def test_nodes_that_are_left_out_are_not_asked(self):
        list(self.tree.search((100, 200)))
        self.assertEqual(self.kind.named("consistent"), [(label, (100, 200)) for label in ((3, 25), (4, 30), (9, 9))])
        self.assertEqual(self.kind.named("matches"), [])

    def test_rule_stands_in_the_place_of_consistent(self):
        asked = []

        def rule(label, question):
            asked.append((label, question))
            return label != (4, 30)

        self.assertEqual(list(self.tree.search((5, 20), rule)), [1, 2, 8])
        labels = [(3, 25), (3, 8), (20, 25), (4, 30), (9, 9), (9, 9)]
        self.assertEqual(sorted(asked), sorted((label, (5, 20)) for label in labels))
        self.assertEqual(self.kind.names(), {"matches"})
        self.assertEqual(len(self.kind.named("matches")), 6)

    def test_rule_that_is_false_itself(self):
        self.assertEqual(list(self.tree.search((5, 20), Falsy())), [1, 2, 6, 8])
        self.assertEqual(len(self.tree.opened((5, 20), Falsy())), 9)
        self.assertEqual(self.tree.lost((5, 20), Falsy()), [])
        self.assertEqual(self.kind.names(), {"matches"})

    def test_rule_on_a_root_leaf_is_not_called(self):
        tree = Tree.packed(Ranges(), [1, 5])
        self.assertEqual(list(tree.search((0, 3), rule=lambda label, question: 1 // 0)), [0])

    def test_by_name(self):
        self.assertEqual(list(self.tree.search(question=(4, 4))), [5])
        self.assertEqual(list(self.tree.search(rule=lambda label, question: False, question=(4, 4))), [])
        self.assertEqual(list(self.tree.search((4, 4), None)), [5])

    def test_nothing_changes(self):
        before = snapshot(self.tree)
        for _ in range(2):
            self.assertEqual(list(self.tree.search((5, 20))), [1, 2, 6, 8])
        self.assertEqual(snapshot(self.tree), before)


def flat(shape):
    return [number for part in shape for number in (flat(part) if isinstance(part, list) else [part])]


class OpenedTest(unittest.TestCase):

    def setUp(self):
        self.tree = Tree.packed(Ranges(), SHAPE)

    def test_paths_in_order(self):
        self.assertEqual(self.tree.opened((5, 20)), [(), (0,), (0, 0), (0, 1), (1,), (1, 0), (2,), (2, 0)])
        self.assertEqual(self.tree.opened((30, 31)), [(), (1,), (1, 1)])
        self.assertEqual(self.tree.opened((99, 0)), [()])

    def test_root_leaf(self):
        self.assertEqual(Tree(Ranges()).opened((0, 9)), [()])
        self.assertEqual(Tree.packed(Ranges(), [3]).opened((0, 1)), [()])

    def test_rule(self):
        self.assertEqual(self.tree.opened((5, 20), lambda label, question: label[0] > 3), [(), (1,), (1, 0), (1, 1),
                         (2,), (2, 0)])
        self.assertEqual(self.tree.opened(question=(5, 20), rule=lambda label, question: False), [()])

    def test_paths_are_tuples_of_integers(self):
        for path in self.tree.opened((5, 20)):
            self.assertIs(type(path), tuple)


class LostTest(unittest.TestCase):

    def test_exact_kind_loses_nothing(self):
        tree = Tree.packed(Ranges(), SHAPE)
        for question in ((5, 20), (0, 99), (7, 3), (100, 200)):
            self.assertEqual(tree.lost(question), [])

    def test_rule_that_loses(self):
        tree = Tree.packed(Ranges(), SHAPE)
        self.assertEqual(tree.lost((5, 20), lambda label, question: False), [1, 2, 6, 8])
        self.assertEqual(tree.lost((5, 20), rule=lambda label, question: label != (3, 25)), [1, 2])
        self.assertEqual(tree.lost(question=(5, 20), rule=None), [])

    def test_kind_that_loses(self):
        results = {("consistent", ((4, 6), (5, 20))): False}
        tree = Tree.packed(Replacing(Ranges(), results), SHAPE)
        self.assertEqual(tree.lost((5, 20)), [6])
        self.assertEqual(tree.lost((5, 20), lambda label, question: True), [])

    def test_rule_in_the_place_of_consistent(self):
        kind = Noting(Ranges())
        tree = Tree.packed(kind, SHAPE)
        kind.calls.clear()
        tree.lost((5, 20), lambda label, question: False)
        self.assertEqual(kind.names(), {"matches"})

    def test_ascending(self):
        tree = Tree.packed(Ranges(), [[1, 2], [8, 9]], most=2)
        for key in (3, 2, 1, 7):
            tree.put(key)
        self.assertNotEqual(flat(tree.shape()), list(range(8)))
        self.assertEqual(tree.lost((0, 9), lambda label, question: False), list(range(8)))

    def test_root_leaf_loses_nothing(self):
        tree = Tree.packed(Texts(), [1, 2, 1])
        self.assertEqual(tree.lost(1, lambda label, question: False), [])


if __name__ == "__main__":
    unittest.main()
