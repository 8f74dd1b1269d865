"""[7.5] What a tree tells of itself, and copies."""

import unittest

from sample_kinds import Divided, Noting, Texts, odd_things, snapshot

from kindgrove.errors import BadSplit, NoRow
from kindgrove.ranges import Ranges
from kindgrove.trees import Tree


class AskedTest(unittest.TestCase):

    def setUp(self):
        self.tree = Tree.packed(Ranges(), [[[4, 2], [9]], [[5]]])
        self.tree.drop(1)

    def test_key_of(self):
        self.assertEqual([self.tree.key_of(0), self.tree.key_of(number=2), self.tree.key_of(3)], [4, 9, 5])

    def test_key_of_no_row(self):
        for number in [1, 4, -1, *odd_things()]:
            with self.assertRaises(NoRow) as caught:
                self.tree.key_of(number)
            self.assertIs(caught.exception.number, number)

    def test_contains(self):
        self.assertEqual([number in self.tree for number in range(-2, 6)], [False, False, True, False] + [True] * 2
                         + [False] * 2)
        for thing in odd_things():
            self.assertIs(thing in self.tree, False)
        self.assertIs(self.tree.__contains__(0), True)

    def test_flags_and_other_equals_are_no_numbers(self):
        tree = Tree.packed(Ranges(), [[4, 2]])
        for thing in (True, False, 0.0, 1.0, 1 + 0j, "0", (0,)):
            self.assertIs(thing in tree, False)
            with self.assertRaises(NoRow):
                tree.key_of(thing)

    def test_len_bool_numbers_height(self):
        self.assertEqual((len(self.tree), bool(self.tree), self.tree.numbers(), self.tree.height),
                         (3, True, [0, 2, 3], 3))
        empty = Tree(Ranges())
        self.assertEqual((len(empty), bool(empty), empty.numbers(), empty.height), (0, False, [], 1))

    def test_numbers_stand_in_ascending_order(self):
        tree = Tree.packed(Texts(), [[1], [2], [3]])
        tree.put(2)
        for key in range(7):
            tree.put(key)
        self.assertNotEqual(flat(tree.shape()), list(range(11)))
        self.assertEqual(tree.numbers(), list(range(11)))

    def test_height_is_a_property_that_cannot_be_set(self):
        with self.assertRaises(AttributeError):
            self.tree.height = 2

    def test_shape(self):
        self.assertEqual(self.tree.shape(), [[[0], [2]], [[3]]])
        self.assertEqual(Tree(Ranges()).shape(), [])

    def test_shape_packs_the_same_tree_again(self):
        def with_keys(part):
            return [with_keys(inner) if isinstance(inner, list) else self.tree.key_of(inner) for inner in part]

        again = Tree.packed(Ranges(), with_keys(self.tree.shape()))
        self.assertEqual(again.height, 3)
        self.assertEqual([again.key_of(number) for number in again.numbers()], [4, 9, 5])

    def test_view(self):
        left = (((2, 4), ("leaf", (0,))), ((9, 9), ("leaf", (2,))))
        entries = (((2, 9), ("node", left)), ((5, 5), ("node", (((5, 5), ("leaf", (3,))),))))
        self.assertEqual(self.tree.view(), ("node", entries))
        self.assertEqual(Tree(Ranges()).view(), ("leaf", ()))

    def test_returned_lists_are_new(self):
        before = snapshot(self.tree)
        self.tree.numbers().clear()
        shape = self.tree.shape()
        shape[0][0].clear()
        shape.clear()
        self.tree.opened((0, 9)).clear()
        numbers, left = self.tree.account((0, 3))
        numbers.append(7)
        left.clear()
        self.tree.lost((0, 9)).append(3)
        self.assertEqual(snapshot(self.tree), before)
        self.assertEqual(self.tree.account((0, 3)), ([], [((0, 1), (9, 9)), ((1,), (5, 5))]))

    def test_kind_is_not_asked(self):
        kind = Noting(Ranges())
        tree = Tree.packed(kind, [[1, 2], [3]])
        kind.calls.clear()
        snapshot(tree)
        snapshot(tree.copy())
        self.assertEqual([1 in tree, kind.calls], [True, []])

    def test_same_answers_again(self):
        self.assertEqual(snapshot(self.tree), snapshot(self.tree))
        self.assertEqual(self.tree.account((0, 9)), self.tree.account((0, 9)))


def flat(shape):
    return [number for part in shape for number in (flat(part) if isinstance(part, list) else [part])]


class CopyTest(unittest.TestCase):

    def test_copy_is_equal(self):
        for shape in ([], [1], [[1, 2], [3]], [[[1]], [[2]]]):
            tree = Tree.packed(Ranges(), shape)
            self.assertEqual(snapshot(tree.copy()), snapshot(tree))

    def test_copy_is_a_tree_of_the_same_kind_and_width(self):
        kind = Noting(Ranges())
        tree = Tree(kind, most=2)
        twin = tree.copy()
        self.assertIs(type(twin), Tree)
        for key in (1, 2, 3):
            twin.put(key)
        self.assertEqual(twin.height, 2)
        self.assertEqual(kind.named("own"), [(1,), (2,), (3,)])

    def test_copy_gives_the_same_numbers(self):
        tree = Tree.packed(Ranges(), [[1, 2], [3]])
        tree.drop(2)
        twin = tree.copy()
        self.assertEqual([twin.put(5), twin.put(6), tree.put(7)], [3, 4, 3])

    def test_changes_of_one_do_not_change_the_other(self):
        deeds = [
            lambda tree: tree.put(7), lambda tree: tree.drop(1), lambda tree: tree.drop(0),
            lambda tree: tree.tighten(), lambda tree: [tree.put(key) for key in range(9)],
            lambda tree: [tree.drop(number) for number in tree.numbers()],
        ]
        for deed in deeds:
            for is_twin_changed in (True, False):
                tree = Tree.packed(Ranges(), [[[1, 9], [2, 3]], [[4]]], most=2)
                tree.drop(3)
                twin = tree.copy()
                before = snapshot(tree)
                deed(twin if is_twin_changed else tree)
                self.assertEqual(snapshot(tree if is_twin_changed else twin), before)
                self.assertNotEqual(snapshot(twin if is_twin_changed else tree), before)

    def test_copies_of_copies_take_deeds_of_their_own(self):
        first = Tree.packed(Texts(), [[1, 2], [3]])
        second = first.copy()
        second.put(4)
        third = second.copy()
        third.drop(0)
        third.tighten()
        self.assertEqual([len(first), len(second), len(third)], [3, 4, 3])
        self.assertEqual([first.numbers(), second.numbers(), third.numbers()], [[0, 1, 2], [0, 1, 2, 3], [1, 2, 3]])
        self.assertEqual(second.view()[1][0][0].count("1"), 1)
        self.assertEqual(third.view()[1][0][0].count("1"), 0)

    def test_copy_of_a_tree_whose_put_failed(self):
        tree = Tree.packed(Divided(["no"]), [1, 2], most=2)
        with self.assertRaises(BadSplit):
            tree.put(3)
        twin = tree.copy()
        self.assertEqual([twin.put(3), tree.put(4)], [2, 2])


if __name__ == "__main__":
    unittest.main()
