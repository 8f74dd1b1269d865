"""[8.3] Accounts."""

import unittest

from sample_kinds import Noting, Replacing, odd_things

from kindgrove.ranges import Ranges
from kindgrove.trees import Tree

SHAPE = [[[3, 8], [20, 21, 25]], [[4, 6], [30]], [[9]]]
QUESTION = (9, 22)
NUMBERS = [2, 3, 8]
LEFT = [((0, 0), (3, 8)), ((1, 0), (4, 6)), ((1, 1), (30, 30))]


class AccountTest(unittest.TestCase):

    def setUp(self):
        self.tree = Tree.packed(Ranges(), SHAPE)

    def test_account(self):
        self.assertEqual(self.tree.account(QUESTION), (NUMBERS, LEFT))
        self.assertEqual(self.tree.account(question=(0, 2)), ([], [((0,), (3, 25)), ((1,), (4, 30)), ((2,), (9, 9))]))
        self.assertEqual(self.tree.account((0, 99)), (list(range(9)), []))

    def test_left_stands_in_ascending_order_of_paths(self):
        self.assertEqual(self.tree.account((26, 30)),
                         ([7], [((0,), (3, 25)), ((1, 0), (4, 6)), ((2,), (9, 9))]))
        tree = Tree.packed(Ranges(), [[[1], [9]], [[5]]])
        self.assertEqual(tree.account((1, 1)), ([0], [((0, 1), (9, 9)), ((1,), (5, 5))]))

    def test_root_leaf(self):
        self.assertEqual(Tree(Ranges()).account((0, 9)), ([], []))
        self.assertEqual(Tree.packed(Ranges(), [1, 20, 2]).account((0, 9)), ([0, 2], []))

    def test_forms(self):
        numbers, left = self.tree.account(QUESTION)
        self.assertEqual((type(numbers), type(left), type(left[0]), type(left[0][0])), (list, list, tuple, tuple))

    def test_consistent_and_matches_alone_are_called(self):
        kind = Noting(Ranges())
        tree = Tree.packed(kind, SHAPE)
        kind.calls.clear()
        thing = tree.account(QUESTION)
        self.assertIs(tree.is_account(QUESTION, thing), True)
        self.assertEqual(kind.names(), {"consistent", "matches"})

    def test_an_account_does_not_see_what_the_kind_loses(self):
        kind = Replacing(Ranges(), {("consistent", ((20, 25), QUESTION)): False})
        tree = Tree.packed(kind, SHAPE)
        thing = tree.account(QUESTION)
        self.assertEqual(thing, ([8], [((0, 0), (3, 8)), ((0, 1), (20, 25)), *LEFT[1:]]))
        self.assertIs(tree.is_account(QUESTION, thing), True)
        self.assertEqual(tree.lost(QUESTION), [2, 3])


class IsAccountTest(unittest.TestCase):

    def setUp(self):
        self.tree = Tree.packed(Ranges(), SHAPE)

    def check(self, wanted, *things):
        for thing in things:
            self.assertIs(self.tree.is_account(QUESTION, thing), wanted, thing)

    def test_accounts(self):
        self.check(True, (NUMBERS, LEFT), (NUMBERS, LEFT[::-1]), (NUMBERS, [LEFT[1], LEFT[2], LEFT[0]]))

    def test_fewer_entries_left(self):
        self.check(True, (NUMBERS, []), (NUMBERS, LEFT[:1]), (NUMBERS, LEFT[1:]), (NUMBERS, [LEFT[0], LEFT[2]]))

    def test_every_search_has_its_account(self):
        for low in range(0, 32, 3):
            for high in range(0, 32, 4):
                thing = self.tree.account((low, high))
                self.assertIs(self.tree.is_account((low, high), thing), True)
                self.assertIs(self.tree.is_account(question=(low, high), thing=thing), True)

    def test_wrong_numbers(self):
        self.check(False, ([2, 3], LEFT), ([2, 3, 8, 8], LEFT), ([3, 2, 8], LEFT), ([2, 3, 7], LEFT), ([], LEFT),
                   ([2, 3, 8, 1], LEFT), ([0, 2, 3, 8], []), ([2, 3, None], LEFT), ([2, 3, 8.0], LEFT),
                   ([2, 3, "8"], LEFT), (tuple(NUMBERS), LEFT), (None, LEFT), ({2: 2, 3: 3, 8: 8}, LEFT))

    def test_wrong_label(self):
        for label in ((3, 9), [3, 8], (3, 8.0), (3,), None, True, "(3, 8)", (3, 8, 0), (20, 25), {}):
            self.check(False, (NUMBERS, [((0, 0), label), *LEFT[1:]]))

    def test_wrong_path(self):
        for path in ((0, 1), (0, 2), (5,), (0,), (), (0, 0, 0), (0, 0, 1), (-3, 0), (0, -2), (0.0, 0), (False, 0),
                     (0, False), [0, 0], "00", None, 0, ("0", "0"), (0, None), ((0,), 0), (10 ** 30,), (0,) * 5000):
            self.check(False, (NUMBERS, [(path, (3, 8)), *LEFT[1:]]))

    def test_a_label_at_another_path(self):
        self.check(False, (NUMBERS, [((0, 0), (4, 6))]), (NUMBERS, [((1, 0), (3, 8))]),
                   (NUMBERS, [((0, 0), (3, 8)), ((1, 0), (30, 30))]))

    def test_consistent_entry(self):
        self.check(False, ([8], [((0, 1), (20, 25))]), (NUMBERS, [((0, 1), (20, 25))]), ([2, 3], [((2,), (9, 9))]),
                   ([2, 3], [*LEFT, ((2, 0), (9, 9))]), ([8], [((0,), (3, 25))]))

    def test_one_path_begins_with_another_or_equals_it(self):
        tree = Tree.packed(Ranges(), [[[1], [2]], [[50]]])
        for question, thing, wanted in [
            ((40, 60), ([2], [((0,), (1, 2))]), True),
            ((40, 60), ([2], [((0, 0), (1, 1)), ((0, 1), (2, 2))]), True),
            ((40, 60), ([2], [((0,), (1, 2)), ((0, 0), (1, 1))]), False),
            ((40, 60), ([2], [((0, 1), (2, 2)), ((0,), (1, 2))]), False),
            ((40, 60), ([2], [((0,), (1, 2)), ((0,), (1, 2))]), False),
            ((40, 60), ([2], [((0, 1), (2, 2)), ((0, 0), (1, 1)), ((0, 1), (2, 2))]), False),
            ((40, 60), ([2], []), True),
        ]:
            self.assertIs(tree.is_account(question, thing), wanted, thing)

    def test_root_cannot_be_left_out(self):
        tree = Tree.packed(Ranges(), [[1], [2]])
        for thing in (([], [((), (1, 2))]), ([], [((), None)]), ([], [((), ())])):
            self.assertIs(tree.is_account((5, 6), thing), False)
        self.assertIs(tree.is_account((5, 6), ([], [])), True)

    def test_path_to_a_row(self):
        tree = Tree.packed(Ranges(), [[1, 2], [3]])
        self.assertIs(tree.is_account((9, 9), ([], [((0, 0), (1, 1))])), False)
        leaf = Tree.packed(Ranges(), [1, 2])
        self.assertIs(leaf.is_account((9, 9), ([], [((0,), (1, 1))])), False)
        self.assertIs(leaf.is_account((9, 9), ([], [])), True)

    def test_flags_in_the_place_of_integers(self):
        tree = Tree.packed(Ranges(), [[1], [2], [3]])
        left = [((0,), (1, 1)), ((2,), (3, 3))]
        self.assertIs(tree.is_account((2, 2), ([1], left)), True)
        self.assertIs(tree.is_account((2, 2), ([True], left)), False)
        self.assertIs(tree.is_account((2, 2), ([1], [((False,), (1, 1)), left[1]])), False)
        self.assertIs(tree.is_account((2, 2), ([1], [((0,), (1, True)), left[1]])), False)
        self.assertIs(tree.is_account((2, 2), ([1], [((0,), (True, 1)), left[1]])), False)

    def test_wrong_forms(self):
        entry = LEFT[0]
        self.check(False, [NUMBERS, LEFT], (NUMBERS,), (NUMBERS, LEFT, None), (NUMBERS, tuple(LEFT)), (LEFT, NUMBERS),
                   (NUMBERS, dict(LEFT)), (NUMBERS, [list(entry)]), (NUMBERS, [entry[:1]]), (NUMBERS, [entry + (0,)]),
                   (NUMBERS, entry), (NUMBERS, None), (NUMBERS, "left"), (NUMBERS, [None]), (NUMBERS, [()]),
                   (NUMBERS, [7]), (NUMBERS, [LEFT]))

    def test_odd_objects(self):
        for thing in odd_things():
            if isinstance(thing, list) and len(thing) == 0:
                continue
            for made in (thing, (thing, LEFT), (NUMBERS, thing), (NUMBERS, [thing]), ([thing], LEFT),
                         (NUMBERS, [(thing, (3, 8))]), (NUMBERS, [((0, thing), (3, 8))]), (NUMBERS, [((0, 0), thing)])):
                self.assertIs(self.tree.is_account(QUESTION, made), False)

    def test_an_account_of_another_question_or_tree(self):
        thing = self.tree.account((26, 30))
        self.check(False, thing)
        other = Tree.packed(Ranges(), SHAPE)
        other.put(10)
        self.assertIs(other.is_account(QUESTION, (NUMBERS, LEFT)), False)
        self.assertIs(self.tree.is_account((9, 23), (NUMBERS, LEFT)), True)

    def test_thing_is_not_changed(self):
        thing = (list(NUMBERS), LEFT[::-1])
        self.tree.is_account(QUESTION, thing)
        self.assertEqual(thing, (NUMBERS, LEFT[::-1]))

    def test_empty_tree(self):
        tree = Tree(Ranges())
        self.assertIs(tree.is_account((0, 9), ([], [])), True)
        self.assertIs(tree.is_account((0, 9), ([0], [])), False)


if __name__ == "__main__":
    unittest.main()
