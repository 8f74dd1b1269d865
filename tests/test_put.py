"""[7.3] Rows that are put into a tree."""

import unittest
from reprlib import repr as short

from sample_kinds import Divided, Noting, Replacing, Texts, odd_things, snapshot

from kindgrove.errors import BadSplit, BadValue
from kindgrove.kinds import Kind
from kindgrove.ranges import Ranges
from kindgrove.trees import Tree


class Steered(Texts):
    """Texts with the penalties that a dict tells by label, otherwise 5, and the sides of the base class."""

    sides = Kind.sides

    def __init__(self, costs=()):
        self.costs = dict(costs)

    def penalty(self, label, key):
        return self.costs.get(label, 5)


def leaf(*numbers):
    return ("leaf", numbers)


class WayTest(unittest.TestCase):

    def test_numbers_and_order_in_the_leaf(self):
        tree = Tree(Ranges())
        self.assertEqual([tree.put(key) for key in (9, 2, 9, 5)], [0, 1, 2, 3])
        self.assertEqual(tree.view(), leaf(0, 1, 2, 3))
        self.assertEqual([tree.key_of(number) for number in range(4)], [9, 2, 9, 5])

    def test_least_penalty(self):
        tree = Tree.packed(Steered({"2": 4, "3": -10 ** 30}), [[1], [2], [3]])
        tree.put(7)
        self.assertEqual(tree.view(), ("node", (("1", leaf(0)), ("2", leaf(1)), ("(3 7)", leaf(2, 3)))))

    def test_first_of_equal_penalties(self):
        tree = Tree.packed(Steered({"2": 4, "3": 4}), [[1], [2], [3]])
        tree.put(7)
        self.assertEqual(tree.shape(), [[0], [1, 3], [2]])

    def test_penalties_are_asked_once_in_order_on_the_way_only(self):
        kind = Noting(Steered({"(4 5)": 1, "5": 0}))
        tree = Tree.packed(kind, [[[1], [2], [3]], [[4], [5]]])
        kind.calls.clear()
        tree.put(7)
        self.assertEqual(kind.named("penalty"), [("((1 2) 3)", 7), ("(4 5)", 7), ("4", 7), ("5", 7)])
        self.assertEqual(kind.named("own"), [(7,)])
        self.assertEqual(kind.named("sides"), [])
        self.assertEqual(sorted(kind.named("join")), [("(4 5)", "7"), ("5", "7")])
        self.assertEqual(kind.names(), {"own", "join", "penalty"})

    def test_one_entry_is_asked_too(self):
        kind = Noting(Steered())
        tree = Tree.packed(kind, [[[1]]])
        kind.calls.clear()
        tree.put(2)
        self.assertEqual(kind.named("penalty"), [("1", 2), ("1", 2)])

    def test_join_takes_the_label_first(self):
        tree = Tree.packed(Texts(), [[[1]]])
        tree.put(2)
        self.assertEqual(tree.view(), ("node", (("(1 2)", ("node", (("(1 2)", leaf(0, 1)),))),)))

    def test_root_leaf_is_asked_for_own_alone(self):
        kind = Noting(Texts())
        Tree(kind).put(3)
        self.assertEqual(kind.calls, [("own", (3,))])

    def test_by_name(self):
        self.assertEqual(Tree(Ranges()).put(key=3), 0)


class SplitTest(unittest.TestCase):

    def test_root_leaf(self):
        for most in (2, 3, 50):
            kind = Noting(Steered())
            tree = Tree(kind, most=most)
            for key in range(most + 1):
                tree.put(key)
            half = (most + 1) // 2
            self.assertEqual(tree.shape(), [list(range(half)), list(range(half, most + 1))])
            self.assertEqual(kind.named("sides"), [([str(key) for key in range(most + 1)],)])
            self.assertEqual(len(kind.named("join")), most - 1)

    def test_sides_part_the_entries_in_their_order(self):
        tree = Tree(Divided([[1, 0, 1, 0, 1]]))
        for key in (10, 20, 30, 40, 50):
            tree.put(key)
        self.assertEqual(tree.view(), ("node", (((20, 40), leaf(1, 3)), ((10, 50), leaf(0, 2, 4)))))

    def test_sides_gets_a_list(self):
        for answer in ([0, 1, 1], (0, 1, 1)):
            kind = Divided([answer])
            tree = Tree(kind, most=2)
            for key in (3, 1, 2):
                tree.put(key)
            self.assertEqual(kind.asked, [[(3, 3), (1, 1), (2, 2)]])
            self.assertIs(type(kind.asked[0]), list)
            self.assertEqual(tree.shape(), [[0], [1, 2]])

    def test_what_sides_does_to_its_list_does_not_matter(self):
        class Greedy(Ranges):
            def sides(self, labels):
                answer = super().sides(labels)
                labels.clear()
                return answer

        tree = Tree(Greedy(), most=2)
        for key in (3, 1, 2):
            tree.put(key)
        self.assertEqual(tree.view(), ("node", (((1, 1), leaf(1)), ((2, 3), leaf(0, 2)))))

    def test_leaf_and_root_at_once(self):
        kind = Noting(Steered({"(2 3)": 0, "((2 3) 5)": 0}))
        tree = Tree.packed(kind, [[1], [2, 3], [4]], most=3)
        tree.put(5)
        self.assertEqual(tree.view(), ("node", (("1", leaf(0)), ("((2 3) 5)", leaf(1, 2, 4)), ("4", leaf(3)))))
        kind.calls.clear()
        tree.put(6)
        self.assertEqual(kind.named("sides"), [(["2", "3", "5", "6"],), (["1", "(2 3)", "(5 6)", "4"],)])
        left = ("(1 (2 3))", ("node", (("1", leaf(0)), ("(2 3)", leaf(1, 2)))))
        right = ("((5 6) 4)", ("node", (("(5 6)", leaf(4, 5)), ("4", leaf(3)))))
        self.assertEqual(tree.view(), ("node", (left, right)))
        joins = [("2", "3"), ("5", "6"), ("1", "(2 3)"), ("(5 6)", "4")]
        self.assertEqual(sorted(kind.named("join")), sorted(joins))

    def test_label_above_a_node_that_was_not_split_is_joined(self):
        kind = Noting(Steered({"(1 (2 3))": 0, "(2 3)": 0}))
        tree = Tree.packed(kind, [[[1], [2, 3]], [[4]]], most=3)
        tree.put(5)
        kind.kind.costs = {"((1 (2 3)) 5)": 0, "((2 3) 5)": 0}
        kind.calls.clear()
        tree.put(6)
        inner = (("1", leaf(0)), ("(2 3)", leaf(1, 2)), ("(5 6)", leaf(4, 5)))
        outer = (("(((1 (2 3)) 5) 6)", ("node", inner)), ("4", ("node", (("4", leaf(3)),))))
        self.assertEqual(tree.view(), ("node", outer))
        joins = [("2", "3"), ("5", "6"), ("((1 (2 3)) 5)", "6")]
        self.assertEqual(sorted(kind.named("join")), sorted(joins))

    def test_functions_that_are_called(self):
        for most in (2, 3, 4, 7):
            kind = Noting(Texts())
            tree = Tree(kind, most=most)
            for key in range(40):
                kind.calls.clear()
                tree.put(key % 9)
                self.assertEqual(kind.named("own"), [(key % 9,)])
                self.assertLessEqual(kind.names(), {"own", "join", "penalty", "sides"})
                self.assertTrue(all(len(told[0]) == most + 1 for told in kind.named("sides")))
                labels = set(labels_above_nodes(tree.view()))
                folds = {fold for label in labels for fold in parts_of(label)}
                self.assertLessEqual({f"({one} {other})" for one, other in kind.named("join")}, folds)

    def test_number_is_not_given_twice(self):
        tree = Tree(Ranges(), most=2)
        for key in range(6):
            tree.put(key)
        tree.drop(5)
        tree.drop(0)
        self.assertEqual([tree.put(9), tree.numbers()], [6, [1, 2, 3, 4, 6]])
        for number in tree.numbers():
            tree.drop(number)
        self.assertEqual([tree.put(9), tree.put(9), tree.numbers()], [7, 8, [7, 8]])


def labels_above_nodes(view):
    """The labels of all entries, those of rows left out."""
    if view[0] == "node":
        for label, below in view[1]:
            yield label
            yield from labels_above_nodes(below)


def parts_of(label):
    """The label, and all the labels of Texts in it that a fold went through."""
    parts, starts = [], []
    for at, sign in enumerate(label):
        if sign == "(":
            starts.append(at)
        elif sign == ")":
            parts.append(label[starts.pop():at + 1])
    return parts


class WrongKeyTest(unittest.TestCase):

    def test_keys_that_are_not_plain(self):
        kind = Noting(Ranges())
        tree = Tree.packed(kind, [[1, 2], [3]])
        before = snapshot(tree)
        kind.calls.clear()
        for key in odd_things():
            if key is None or isinstance(key, (str, tuple)) or type(key) is int:
                continue
            with self.subTest(short(key)), self.assertRaises(BadValue) as caught:
                tree.put(key)
            self.assertIs(caught.exception.value, key)
        self.assertEqual((snapshot(tree), kind.calls), (before, []))
        self.assertEqual(tree.put(4), 3)

    def test_deep_keys(self):
        deep = 1
        for _ in range(3000):
            deep = (deep,)
        five = (((((1,),),),),)
        for key in (deep, five, (True,), (1, (2, [3]))):
            with self.assertRaises(BadValue) as caught:
                Tree(Ranges()).put(key)
            self.assertIs(caught.exception.value, key)

    def test_key_ahead_of_own(self):
        tree = Tree(Replacing(Ranges(), {("own", (True,)): []}))
        with self.assertRaises(BadValue) as caught:
            tree.put(True)
        self.assertIs(caught.exception.value, True)


class WrongLabelTest(unittest.TestCase):

    def check(self, tree, key, wrong):
        before = snapshot(tree)
        for _ in range(2):
            with self.assertRaises(BadValue) as caught:
                tree.put(key)
            self.assertIs(caught.exception.value, wrong)
            self.assertEqual(snapshot(tree), before)

    def test_own(self):
        for wrong in (True, [7, 7], (7, [7]), 7.0, b"7", (((((7,),),),),)):
            tree = Tree.packed(Replacing(Ranges(), {("own", (7,)): wrong}), [[1], [2]])
            self.check(tree, 7, wrong)
            self.assertEqual([tree.put(8), tree.shape()], [2, [[0], [1, 2]]])

    def test_own_ahead_of_others(self):
        wrong = [7, 7]
        results = {("own", (7,)): wrong, ("join", ((2, 2), (7, 7))): False}
        self.check(Tree.packed(Replacing(Ranges(), results), [[1], [2]]), 7, wrong)

    def test_join_on_the_way(self):
        for wrong in (False, [2, 7], (2, {})):
            results = {("join", ((2, 2), (7, 7))): wrong}
            tree = Tree.packed(Replacing(Ranges(), results), [[[1], [2]]])
            self.check(tree, 7, wrong)
            self.assertEqual(tree.put(8), 2)

    def test_join_above_what_was_joined(self):
        wrong = [1, 7]
        tree = Tree.packed(Replacing(Ranges(), {("join", ((1, 2), (7, 7))): wrong}), [[[1], [2]]])
        self.check(tree, 7, wrong)

    def test_fold_of_a_part(self):
        for pair in (((1, 1), (2, 2)), ((6, 6), (7, 7))):
            wrong = [pair]
            tree = Tree.packed(Replacing(Ranges(), {("join", pair): wrong}), [1, 2, 6], most=3)
            self.check(tree, 7, wrong)

    def test_fold_above_a_split(self):
        wrong = True
        kind = Replacing(Ranges(), {("join", ((6, 6), (7, 9))): wrong})
        tree = Tree.packed(kind, [[1], [6, 7]], most=2)
        self.check(tree, 9, wrong)


class BadSplitTest(unittest.TestCase):

    WRONG = [
        [], [0], [0, 1], [0, 1, 1, 1], (0, 1), [0, 0, 0], [1, 1, 1], (1, 1, 1), [0, 1, 2], [0, 1, -1], [0, 1, True],
        [False, 1, 1], [False, True, True], [0, 1, 1.0], [0, 1, None], [0, 1, "1"], [0, 1, [1]], "011", "", None, 0, 1,
        True, {0: 0, 1: 1, 2: 1}, {0, 1, 2}, b"\0\1\1", range(3), iter([0, 1, 1]), object(), (0, 1, (1,)), [[0, 1, 1]],
    ]

    def test_root_leaf(self):
        for wrong in self.WRONG:
            with self.subTest(repr(wrong)):
                tree = Tree(Divided([wrong, [0, 0, 1]]), most=2)
                tree.put(5)
                tree.put(6)
                self.check(tree, 7)
                self.assertEqual([tree.put(7), tree.shape()], [2, [[0, 1], [2]]])

    def test_below_a_root(self):
        for wrong in self.WRONG:
            with self.subTest(repr(wrong)):
                tree = Tree.packed(Divided([wrong]), [[[1], [2, 3]]], most=2)
                self.check(tree, 4)
                self.assertEqual([tree.put(4), tree.shape()], [3, [[[0]], [[1], [2, 3]]]])

    def test_second_split_of_a_put(self):
        for wrong in self.WRONG:
            with self.subTest(repr(wrong)):
                kind = Divided([[0, 0, 1], wrong])
                tree = Tree.packed(kind, [[1], [2, 3]], most=2)
                self.check(tree, 4)
                self.assertEqual(len(kind.asked), 2)
                self.assertEqual([tree.put(4), tree.shape()], [3, [[[0]], [[1], [2, 3]]]])

    def test_again_and_again(self):
        tree = Tree(Divided(["no", [0, 0, 0], None]), most=2)
        tree.put(5)
        tree.put(6)
        for _ in range(3):
            self.check(tree, 7)
        self.assertEqual(tree.put(7), 2)

    def check(self, tree, key):
        before = snapshot(tree)
        with self.assertRaises(BadSplit):
            tree.put(key)
        self.assertEqual(snapshot(tree), before)


if __name__ == "__main__":
    unittest.main()
