"""Trees and the model in step: [7.1] to [8.3] over long runs of deeds; and what [6.1] says of every tree."""

import random
import unittest

from model import ModelTree
from sample_kinds import Texts, keys_in

from kindgrove.kinds import Kind
from kindgrove.ranges import Ranges
from kindgrove.trees import Tree


class Halves(Texts):
    """Texts with the penalty and the sides of the base class."""

    penalty = Kind.penalty
    sides = Kind.sides


class Runs(unittest.TestCase):
    """Runs of deeds with a tree and a model, for the tests below and for those of other files."""

    keys = list(range(8))

    def run_deeds(self, kind, most, seed, questions):
        chance = random.Random(seed)
        tree, model = Tree(kind, most=most), ModelTree(kind, most)
        for count in range(120):
            self.deed(tree, model, chance)
            self.assertEqual(tree.view(), model.view())
            if count % 6 == 0:
                self.compare(tree, model, questions)
                self.check_nodes(tree)
        while model.keys:
            number = chance.choice(list(model.keys))
            tree.drop(number)
            model.drop(number)
            self.assertEqual(tree.view(), model.view())
        self.assertEqual(tree.view(), ("leaf", ()))
        self.assertEqual(tree.put(self.keys[0]), model.put(self.keys[0]))
        self.compare(tree, model, questions)

    def deed(self, tree, model, chance):
        word = chance.choice(["put", "put", "put", "put", "drop", "tighten"])
        if word == "put":
            key = chance.choice(self.keys)
            self.assertEqual(tree.put(key), model.put(key))
        elif word == "drop" and model.keys:
            number = chance.choice(list(model.keys))
            self.assertIsNone(tree.drop(number))
            model.drop(number)
        elif chance.randrange(3) == 0:
            self.assertEqual(tree.tighten(), model.tighten())

    def compare(self, tree, model, questions):
        self.assertEqual(tree.numbers(), sorted(model.keys))
        self.assertEqual({number: tree.key_of(number) for number in tree.numbers()}, model.keys)
        self.assertEqual((len(tree), bool(tree), tree.height), (len(model.keys), bool(model.keys), model.levels))
        for question in questions:
            numbers, left, opened = model.account(question)
            self.assertEqual(list(tree.search(question)), numbers)
            self.assertEqual(tree.opened(question), opened)
            self.assertEqual(tree.account(question), (numbers, sorted(left)))
            self.assertIs(tree.is_account(question, (numbers, left[::-1])), True)
            # The kinds are exact: no search may leave a row out [6.1].
            self.assertEqual(tree.lost(question), [])

    def check_nodes(self, tree):
        """The bounds of [7.1], and below each label the keys for which it has to speak."""
        def keys_below(view, is_root):
            word, inside = view
            self.assertTrue(len(inside) <= tree.most and (inside or (is_root and word == "leaf")))
            if word == "leaf":
                return [tree.key_of(number) for number in inside]
            keys = []
            for label, below in inside:
                found = keys_below(below, False)
                self.check_label(label, found)
                keys += found
            return keys

        self.assertEqual(sorted(keys_below(tree.view(), True)), sorted(map(tree.key_of, tree.numbers())))

    def check_label(self, label, keys):
        """A label of Texts has the keys among its leaves, one of Ranges in its range."""
        if isinstance(label, str):
            leaves = keys_in(label)
            self.assertTrue(all(leaves.count(key) >= keys.count(key) for key in keys))
        else:
            self.assertTrue(all(label[0] <= key <= label[1] for key in keys))


class ModelTest(Runs):

    def test_texts(self):
        for most in (2, 3, 4, 5, 9):
            for seed in range(6):
                with self.subTest(most=most, seed=seed):
                    self.run_deeds(Texts(), most, seed, list(range(8)))

    def test_halves(self):
        for most in (2, 3, 7, 50):
            with self.subTest(most=most):
                self.run_deeds(Halves(), most, most, list(range(8)))

    def test_ranges(self):
        for most in (2, 3, 4, 50):
            for seed in range(4):
                with self.subTest(most=most, seed=seed):
                    self.run_deeds(Ranges(), most, seed, [(0, 3), (5, 5), (-9, 20), (7, 6)])


class PackedModelTest(unittest.TestCase):

    def test_packed_trees_take_the_same_deeds(self):
        for seed in range(12):
            chance = random.Random(seed)
            most = chance.choice([2, 3, 5])
            shape, keys = self.random_shape(chance, most, chance.randrange(1, 5))
            tree = Tree.packed(Texts(), shape, most=most)
            self.assertEqual([tree.key_of(number) for number in tree.numbers()], keys)
            model = self.model_of(tree)
            self.assertEqual(tree.view(), model.view())
            for _ in range(30):
                key = chance.randrange(8)
                self.assertEqual(tree.put(key), model.put(key))
                self.assertEqual(tree.view(), model.view())

    def random_shape(self, chance, most, levels):
        if levels == 1:
            keys = [chance.randrange(8) for _ in range(chance.randrange(1, most + 1))]
            return keys, keys
        parts = [self.random_shape(chance, most, levels - 1) for _ in range(chance.randrange(1, most + 1))]
        return [shape for shape, _ in parts], [key for _, keys in parts for key in keys]

    def model_of(self, tree):
        model = ModelTree(Texts(), tree.most)

        def node_of(shape, levels):
            if levels == 1:
                return [[str(tree.key_of(number)), number] for number in shape]
            nodes = [node_of(part, levels - 1) for part in shape]
            return [[model.fold(node), node] for node in nodes]

        model.levels, model.next = tree.height, len(tree)
        model.root = node_of(tree.shape(), tree.height)
        model.keys = {number: tree.key_of(number) for number in tree.numbers()}
        return model


if __name__ == "__main__":
    unittest.main()
