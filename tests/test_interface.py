"""The interface: where each name stands, its methods in its own body, its arguments."""

import inspect
import unittest

from kindgrove import errors, kinds, trees, values

TREE = {
    "__init__": "(self, kind, *, most=4)", "put": "(self, key)", "drop": "(self, number)", "tighten": "(self)",
    "key_of": "(self, number)", "numbers": "(self)", "shape": "(self)", "view": "(self)", "copy": "(self)",
    "search": "(self, question, rule=None)", "opened": "(self, question, rule=None)",
    "lost": "(self, question, rule=None)", "account": "(self, question)", "is_account": "(self, question, thing)",
}
KIND = {
    "own": "(self, key)", "join": "(self, one, other)", "consistent": "(self, label, question)",
    "matches": "(self, key, question)", "penalty": "(self, label, key)", "sides": "(self, labels)",
}


class InterfaceTest(unittest.TestCase):

    def test_modules(self):
        self.assertEqual(trees.Tree.__module__, "kindgrove.trees")
        self.assertEqual(kinds.Kind.__module__, "kindgrove.kinds")
        self.assertEqual(values.is_plain.__module__, "kindgrove.values")
        self.assertEqual(errors.GroveError.__module__, "kindgrove.errors")

    def test_methods_and_their_arguments(self):
        for holder, methods in ((trees.Tree, TREE), (kinds.Kind, KIND)):
            for name, told in methods.items():
                with self.subTest(name):
                    self.assertEqual(str(inspect.signature(vars(holder)[name])), told)

    def test_other_parts_of_a_tree(self):
        inside = vars(trees.Tree)
        self.assertIsInstance(inside["packed"], classmethod)
        self.assertEqual(str(inspect.signature(trees.Tree.packed)), "(kind, shape, *, most=4)")
        self.assertIsInstance(inside["height"], property)
        for name in ("__contains__", "__len__", "__bool__"):
            self.assertIn(name, inside)
        self.assertTrue(inspect.isgeneratorfunction(trees.Tree.search))

    def test_is_plain(self):
        self.assertEqual(str(inspect.signature(values.is_plain)), "(thing)")


if __name__ == "__main__":
    unittest.main()
