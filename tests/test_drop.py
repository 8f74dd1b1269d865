"""[7.4] Rows that are dropped, and labels that are tightened."""

import unittest

from sample_kinds import Noting, Replacing, Texts, odd_things, snapshot

from kindgrove.errors import BadValue, NoRow
from kindgrove.ranges import Ranges
from kindgrove.trees import Tree


def leaf(*numbers):
    return ("leaf", numbers)


class Early(Texts):
    """Texts whose keys all go to the first entry."""

    def penalty(self, label, key):
        return 0


class DropTest(unittest.TestCase):

    def test_no_label_changes(self):
        tree = Tree.packed(Texts(), [[[1, 2], [3]], [[4]]])
        self.assertIsNone(tree.drop(0))
        left = ("((1 2) 3)", ("node", (("(1 2)", leaf(1)), ("3", leaf(2)))))
        self.assertEqual(tree.view(), ("node", (left, ("4", ("node", (("4", leaf(3)),))))))

    def test_empty_leaf_goes_with_its_entry(self):
        tree = Tree.packed(Texts(), [[1, 2], [3], [4]])
        tree.drop(2)
        self.assertEqual(tree.view(), ("node", (("(1 2)", leaf(0, 1)), ("4", leaf(3)))))

    def test_nodes_without_entries_go_too(self):
        tree = Tree.packed(Texts(), [[[[1]], [[2]]], [[[3]]]])
        tree.drop(2)
        self.assertEqual(tree.shape(), [[[[0]], [[1]]]])
        tree.drop(0)
        self.assertEqual(tree.shape(), [[[[1]]]])
        self.assertEqual(tree.view()[1][0][0], "(1 2)")
        self.assertEqual(tree.height, 4)

    def test_last_row(self):
        tree = Tree.packed(Texts(), [[[[1]], [[2]]], [[[3]]]])
        for number in (1, 2, 0):
            tree.drop(number)
        self.assertEqual(snapshot(tree), (leaf(), [], [], [], 0, False, 1))
        self.assertEqual([tree.put(9), tree.view()], [3, leaf(3)])

    def test_row_of_a_root_leaf(self):
        tree = Tree.packed(Texts(), [1, 2, 3])
        tree.drop(1)
        self.assertEqual(tree.view(), leaf(0, 2))

    def test_kind_is_not_asked(self):
        kind = Noting(Texts())
        tree = Tree.packed(kind, [[1, 2], [3], [4]])
        kind.calls.clear()
        for number in range(4):
            tree.drop(number)
        self.assertEqual(kind.calls, [])

    def test_no_row(self):
        tree = Tree.packed(Ranges(), [[7, 8], [9]])
        tree.drop(1)
        before = snapshot(tree)
        for number in [1, 3, -3, 7, *odd_things()]:
            with self.assertRaises(NoRow) as caught:
                tree.drop(number)
            self.assertIs(caught.exception.number, number)
        self.assertEqual(snapshot(tree), before)

    def test_by_name(self):
        tree = Tree.packed(Ranges(), [5])
        tree.drop(number=0)
        self.assertEqual(len(tree), 0)

    def test_puts_behind_drops(self):
        tree = Tree.packed(Ranges(), [[1, 2], [8, 9]], most=2)
        tree.drop(3)
        self.assertEqual([tree.put(7), tree.shape()], [4, [[0, 1], [2, 4]]])
        self.assertEqual(tree.view()[1][1], ((7, 9), leaf(2, 4)))


class TightenTest(unittest.TestCase):

    def test_labels_of_dropped_rows(self):
        tree = Tree.packed(Ranges(), [[[1, 2], [9]], [[4, 5]]])
        tree.drop(2)
        tree.drop(0)
        self.assertEqual(tree.view()[1][0], ((1, 9), ("node", (((1, 2), leaf(1)),))))
        self.assertEqual(tree.tighten(), 2)
        inner = ("node", (((2, 2), leaf(1)),))
        self.assertEqual(tree.view(), ("node", (((2, 2), inner), ((4, 5), ("node", (((4, 5), leaf(3, 4)),))))))
        self.assertEqual(tree.tighten(), 0)

    def test_nothing_to_tighten(self):
        for shape in ([], [1, 2], [[1], [2, 3]], [[[1]]]):
            tree = Tree.packed(Texts(), shape)
            before = snapshot(tree)
            self.assertEqual(tree.tighten(), 0)
            self.assertEqual(snapshot(tree), before)

    def test_count_and_views(self):
        tree = Tree.packed(Texts(), [[[1, 2, 3], [4]], [[5]]])
        tree.drop(1)
        self.assertEqual(tree.tighten(), 2)
        left = ("((1 3) 4)", ("node", (("(1 3)", leaf(0, 2)), ("4", leaf(3)))))
        self.assertEqual(tree.view(), ("node", (left, ("5", ("node", (("5", leaf(4)),))))))

    def test_a_label_may_become_another_one_without_a_drop(self):
        tree = Tree.packed(Early(), [[[1], [2]]])
        tree.put(3)
        self.assertEqual(tree.view()[1][0], ("((1 2) 3)", ("node", (("(1 3)", leaf(0, 2)), ("2", leaf(1))))))
        self.assertEqual(tree.tighten(), 1)
        self.assertEqual(tree.view()[1][0], ("((1 3) 2)", ("node", (("(1 3)", leaf(0, 2)), ("2", leaf(1))))))

    def test_join_alone_is_called_for_the_folds_alone(self):
        kind = Noting(Texts())
        tree = Tree.packed(kind, [[[1, 2, 3], [4]], [[5, 6]]])
        tree.drop(0)
        kind.calls.clear()
        self.assertEqual(tree.tighten(), 2)
        self.assertEqual(sorted(kind.calls), [("join", ("(2 3)", "4")), ("join", ("2", "3")), ("join", ("5", "6"))])

    def test_root_leaf_is_not_folded(self):
        kind = Noting(Texts())
        tree = Tree.packed(kind, [1, 2, 3])
        kind.calls.clear()
        self.assertEqual([tree.tighten(), kind.calls], [0, []])

    def test_wrong_label(self):
        for wrong in (True, [1, 3], (1, {}), 1.0):
            for pair in (((8, 8), (9, 9)), ((1, 1), (8, 9))):
                kind = Replacing(Ranges(), {("join", pair): wrong})
                tree = Tree.packed(kind, [[[1], [8, 7, 9]], [[5, 6], [3]]])
                tree.drop(2)
                tree.drop(5)
                before = snapshot(tree)
                for _ in range(2):
                    with self.assertRaises(BadValue) as caught:
                        tree.tighten()
                    self.assertIs(caught.exception.value, wrong)
                    self.assertEqual(snapshot(tree), before)
                self.assertEqual(tree.put(4), 7)


if __name__ == "__main__":
    unittest.main()
