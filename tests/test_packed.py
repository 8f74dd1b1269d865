"""[7.1], [7.2] Empty trees, and trees that are packed by a shape."""

import unittest
from reprlib import repr as short

from sample_kinds import Noting, Replacing, Texts, nested, odd_things, snapshot

from kindgrove.errors import BadCount, BadShape, BadValue, TooLarge
from kindgrove.kinds import Kind
from kindgrove.ranges import Ranges
from kindgrove.trees import Tree

BAD_COUNTS = [1, 0, -2, 51, 10 ** 30, True, False, None, "4", 4.0, (4,), [4], b"4", {}, object()]


def wide_shape(rows, most):
    """A shape of height 2 with so many rows."""
    keys = list(range(rows))
    return [keys[at:at + most] for at in range(0, rows, most)]


class MostTest(unittest.TestCase):

    def test_empty_tree(self):
        tree = Tree(Ranges())
        self.assertEqual(snapshot(tree), (("leaf", ()), [], [], [], 0, False, 1))

    def test_bad_counts(self):
        for most in BAD_COUNTS:
            for make in (lambda: Tree(Ranges(), most=most), lambda: Tree.packed(Ranges(), [1], most=most)):
                with self.subTest(most=most), self.assertRaises(BadCount) as caught:
                    make()
                self.assertIs(caught.exception.count, most)

    def test_bounds_of_most(self):
        for most in (2, 3, 49, 50):
            self.assertEqual(len(Tree(Ranges(), most=most)), 0)
            self.assertEqual(len(Tree.packed(Ranges(), list(range(most)), most=most)), most)

    def test_most_is_four_unless_told(self):
        self.assertEqual(len(Tree.packed(Ranges(), [1, 2, 3, 4])), 4)
        with self.assertRaises(BadShape):
            Tree.packed(Ranges(), [1, 2, 3, 4, 5])
        tree = Tree(Ranges())
        heights = [(tree.put(key), tree.height)[1] for key in range(5)]
        self.assertEqual(heights, [1, 1, 1, 1, 2])

    def test_arguments(self):
        self.assertEqual(Tree(kind=Ranges(), most=3).height, 1)
        self.assertEqual(Tree.packed(kind=Ranges(), shape=[[1]], most=3).height, 2)
        with self.assertRaises(TypeError):
            Tree(Ranges(), 4)
        with self.assertRaises(TypeError):
            Tree.packed(Ranges(), [], 4)


class PackedTest(unittest.TestCase):

    def test_empty_shape(self):
        tree = Tree.packed(Ranges(), [])
        self.assertEqual(snapshot(tree), snapshot(Tree(Ranges())))
        self.assertEqual([tree.put(5), tree.put(6)], [0, 1])

    def test_one_leaf(self):
        tree = Tree.packed(Ranges(), [5, 3, 5])
        self.assertEqual(snapshot(tree), (("leaf", (0, 1, 2)), [0, 1, 2], [0, 1, 2], [5, 3, 5], 3, True, 1))

    def test_folds_and_numbers(self):
        tree = Tree.packed(Texts(), [[[1, 2, 3], [4]], [[5, 6]]])
        left = (("((1 2) 3)", ("leaf", (0, 1, 2))), ("4", ("leaf", (3,))))
        right = (("(5 6)", ("leaf", (4, 5))),)
        entries = (("(((1 2) 3) 4)", ("node", left)), ("(5 6)", ("node", right)))
        self.assertEqual(tree.view(), ("node", entries))
        self.assertEqual(tree.shape(), [[[0, 1, 2], [3]], [[4, 5]]])
        self.assertEqual([tree.key_of(number) for number in tree.numbers()], [1, 2, 3, 4, 5, 6])
        self.assertEqual([tree.height, tree.put(7)], [3, 6])

    def test_keys_of_any_plain_value(self):
        keys = [None, "a", (), ((((1,),),),)]
        kind = Noting(Replacing(Kind(), {("own", (key,)): "label" for key in keys}))
        tree = Tree.packed(kind, keys)
        self.assertEqual([tree.key_of(at) for at in range(4)], keys)

    def test_which_functions_are_called(self):
        kind = Noting(Texts())
        Tree.packed(kind, [[[1, 2, 3], [4]], [[5, 6]]])
        self.assertEqual(sorted(kind.named("own")), [(key,) for key in range(1, 7)])
        wanted = [("1", "2"), ("(1 2)", "3"), ("((1 2) 3)", "4"), ("5", "6")]
        self.assertEqual(sorted(kind.named("join")), sorted(wanted))
        self.assertEqual(kind.names(), {"own", "join"})

    def test_no_join_above_the_root(self):
        kind = Noting(Texts())
        Tree.packed(kind, [1, 2, 3])
        self.assertEqual(kind.named("join"), [])
        Tree.packed(kind, [[1], [2], [3]])
        self.assertEqual(kind.named("join"), [])

    def test_shape_is_not_kept_and_not_changed(self):
        shape = [[1, 2], [3]]
        tree = Tree.packed(Ranges(), shape)
        before = snapshot(tree)
        self.assertEqual(shape, [[1, 2], [3]])
        shape[0].append(9)
        shape.append([7])
        self.assertEqual(snapshot(tree), before)
        tree.put(4)
        self.assertEqual(shape, [[1, 2, 9], [3], [7]])

    def test_one_list_at_several_places(self):
        leaf = [1, 2]
        tree = Tree.packed(Texts(), [leaf, leaf, leaf])
        self.assertEqual(tree.shape(), [[0, 1], [2, 3], [4, 5]])
        tree.drop(2)
        self.assertEqual(tree.shape(), [[0, 1], [3], [4, 5]])


class WrongShapeTest(unittest.TestCase):

    def check(self, shape, path, most=4):
        kind = Noting(Ranges())
        with self.subTest(short(shape)), self.assertRaises(BadShape) as caught:
            Tree.packed(kind, shape, most=most)
        self.assertEqual(caught.exception.path, path)
        self.assertIs(type(caught.exception.path), tuple)
        self.assertEqual(kind.calls, [])

    def test_outermost_is_no_list(self):
        for shape in odd_things():
            if not isinstance(shape, list):
                self.check(shape, ())
        self.check(([1], [2]), ())
        self.check(7, ())

    def test_empty_inner_list(self):
        self.check([[]], (0,))
        self.check([[1], []], (1,))
        self.check([[[1], [2]], [[3], []]], (1, 1))
        self.check([[[1]], []], (1,))
        self.check([[[]]], (0, 0))

    def test_too_long(self):
        self.check([1, 2, 3], (), most=2)
        self.check([[1], [2], [3]], (), most=2)
        self.check([[1], [2, 3, 4]], (1,), most=2)
        self.check([[[1]], [[1], [1], [1]]], (1,), most=2)
        self.check(list(range(51)), (), most=50)

    def test_no_plain_value_in_a_leaf(self):
        for thing in odd_things():
            if isinstance(thing, (bool, float, bytes, dict, set)) or thing == ((True,),):
                self.check([1, thing], (1,))
                self.check([[1], [2, 3, thing]], (1, 2))
        self.check([True], (0,))
        self.check([1, (2, True)], (1,))
        self.check([((((1,),),),), (((((1,),),),),)], (1,))

    def test_list_in_a_leaf(self):
        self.check([1, [2]], (1,))
        self.check([[1], [[2]]], (1, 0))
        self.check([[1], [2, []]], (1, 1))
        self.check([[1, [2]], [3]], (0, 1))

    def test_no_list_above_the_leaves(self):
        self.check([[1], 2], (1,))
        self.check([[1], (2,)], (1,))
        self.check([[[1], [2]], [3]], (1, 0))
        self.check([[[1], None]], (0, 1))

    def test_first_of_two(self):
        self.check([[1], 2, []], (1,))
        self.check([[1], [], 2], (1,))
        self.check([[1, True], 2], (0, 1))
        self.check([[1, 2, True], 2], (0,), most=2)
        self.check([[1, True], [2], [3]], (), most=2)
        self.check([[[1], [2, 3, True]], [[]]], (0, 1), most=2)
        self.check([[[1], 2], []], (0, 1))
        self.check([[[1, False, True]], [[], 2]], (0, 0, 1))

    def test_deep_places(self):
        self.check(nested(59, []), (0,) * 59)
        self.check(nested(60, True), (0,) * 60)
        self.check([1, nested(5000, 2)], (1,))
        self.check([[1], [nested(5000, 2)]], (1, 0))
        self.check([[1, 2], [3, nested(5000, [])], 4], (1, 1))
        deep = ()
        for _ in range(5000):
            deep = (deep,)
        self.check([[1], [2, deep]], (1, 1))

    def test_list_inside_itself(self):
        shape = [1]
        shape.append(shape)
        self.check(shape, (1,))
        upper = [[1]]
        upper.append(upper)
        self.check(upper, (1, 0))


class TooLargeTest(unittest.TestCase):

    def check(self, shape, most=4):
        kind = Noting(Ranges())
        with self.assertRaises(TooLarge):
            Tree.packed(kind, shape, most=most)
        self.assertEqual(kind.calls, [])

    def test_heights_of_60_and_61(self):
        tree = Tree.packed(Ranges(), nested(60, 1))
        self.assertEqual([tree.height, len(tree)], [60, 1])
        self.assertEqual(list(tree.search((0, 3))), [0])
        self.assertEqual(tree.opened((0, 3))[-1], (0,) * 59)
        self.assertEqual([tree.put(2), tree.tighten(), tree.shape()], [1, 0, nested(59, [0, 1])])
        tree.drop(0)
        self.assertEqual([tree.tighten(), tree.height], [59, 60])
        tree.drop(1)
        self.assertEqual(tree.height, 1)
        self.check(nested(61, 1))

    def test_empty_list_counts(self):
        self.check(nested(60, []))
        self.check(nested(59, [[], 3]))

    def test_thousands_deep(self):
        self.check(nested(5000, 1))
        self.check(nested(5000, []))
        endless = []
        endless.append(endless)
        self.check(endless)

    def test_only_first_elements_count(self):
        with self.assertRaises(BadShape) as caught:
            Tree.packed(Ranges(), [[1], nested(100, 1)])
        self.assertEqual(caught.exception.path, (1, 0))

    def test_500_and_501_rows(self):
        tree = Tree.packed(Ranges(), wide_shape(500, 50), most=50)
        self.assertEqual([len(tree), tree.height, tree.put(9)], [500, 2, 500])
        self.check(wide_shape(501, 50), most=50)
        self.check(wide_shape(2500, 50), most=50)


class OrderOfErrorsTest(unittest.TestCase):

    def check(self, error, kind, shape, most):
        with self.subTest(error=error), self.assertRaises(error) as caught:
            Tree.packed(kind, shape, most=most)
        return caught.exception

    def test_order(self):
        bad = Replacing(Ranges(), {("own", (1,)): [1], ("own", (700,)): {}})
        rows = wide_shape(501, 20)
        self.check(BadCount, bad, nested(61, 1), 1)
        self.check(BadCount, bad, "no list", 51)
        self.check(TooLarge, bad, nested(60, []) + [1, 2, 3, 4, 5], 4)
        self.check(TooLarge, bad, [nested(60, 1), True], 4)
        self.assertEqual(self.check(BadShape, bad, rows, 20).path, ())
        self.assertEqual(self.check(BadShape, bad, rows[:-1] + [[True]], 50).path, (25, 0))
        self.check(TooLarge, bad, rows, 50)
        self.assertEqual(self.check(BadValue, bad, [[5, 6], [1]], 4).value, [1])

    def test_own_ahead_of_joins(self):
        results = {("join", ((5, 5), (6, 6))): False, ("own", (1,)): [1]}
        self.assertEqual(self.check(BadValue, Replacing(Ranges(), results), [[5, 6], [1]], 4).value, [1])


class WrongLabelTest(unittest.TestCase):

    def check(self, results, shape, wrong):
        with self.assertRaises(BadValue) as caught:
            Tree.packed(Replacing(Ranges(), results), shape)
        self.assertIs(caught.exception.value, wrong)

    def test_own(self):
        for wrong in odd_things():
            if isinstance(wrong, (bool, list, float)):
                self.check({("own", (3,)): wrong}, [1, 2, 3], wrong)
        wrong = (1, (2, [3]))
        self.check({("own", (3,)): wrong}, [[1], [3], [4]], wrong)

    def test_join(self):
        for wrong in ([3, 4], True, (1, 2.0), {}):
            self.check({("join", ((3, 3), (4, 4))): wrong}, [[1], [3, 4, 5]], wrong)
            self.check({("join", ((3, 4), (5, 5))): wrong}, [[[1], [3, 4, 5]]], wrong)
            self.check({("join", ((1, 1), (3, 5))): wrong}, [[[1], [3, 4, 5]]], wrong)

    def test_joins_that_no_entry_needs_are_not_asked(self):
        tree = Tree.packed(Replacing(Ranges(), {("join", ((1, 1), (2, 2))): []}), [[1], [2]])
        self.assertEqual(len(tree), 2)


if __name__ == "__main__":
    unittest.main()
