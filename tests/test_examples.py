"""The examples of the document that concern trees."""

import unittest

from sample_kinds import Ranges

from kindgrove.errors import BadShape
from kindgrove.kinds import Kind
from kindgrove.trees import Tree


class LossyStems(Kind):
    """Strings below strings with which they begin; but every join is "zz"."""

    def own(self, key):
        return key

    def join(self, one, other):
        return "zz"

    def consistent(self, label, question):
        return label.startswith(question) or question.startswith(label)

    def matches(self, key, question):
        return key.startswith(question)


class ExamplesTest(unittest.TestCase):

    def test_ranges(self):
        tree = Tree.packed(Ranges(), [[3, 8], [20, 21, 25]])
        self.assertEqual(tree.view(), ('node', (((3, 8), ('leaf', (0, 1))), ((20, 25), ('leaf', (2, 3, 4))))))
        self.assertEqual(list(tree.search((5, 20))), [1, 2])
        self.assertEqual(tree.opened((0, 9)), [(), (0,)])
        self.assertEqual(tree.account((0, 9)), ([0, 1], [((1,), (20, 25))]))
        number = tree.put(10)
        self.assertEqual([number, tree.view()[1][0]], [5, ((3, 10), ('leaf', (0, 1, 5)))])
        tree.drop(5)
        self.assertEqual(tree.tighten(), 1)

    def test_bad_shape(self):
        with self.assertRaises(BadShape) as caught:
            Tree.packed(Ranges(), [[1], 2])
        self.assertEqual(caught.exception.path, (1,))

    def test_lossy(self):
        lossy = Tree.packed(LossyStems(), [[['ab'], ['ab']]])
        self.assertEqual([list(lossy.search("a")), lossy.lost("a")], [[], [0, 1]])


class RangesTest(unittest.TestCase):
    """The kind of the tests does what [3.7] and its example say."""

    def test_example(self):
        kind = Ranges()
        self.assertEqual([kind.join((3, 9), (5, 12)), kind.penalty((3, 9), 12)], [(3, 12), 3])
        self.assertEqual(kind.sides([(5, 5), (1, 2), (4, 9)]), [1, 0, 1])
        self.assertEqual(kind.sides([]), [])


if __name__ == "__main__":
    unittest.main()
