"""[6.5] The least height of a tree in which a search misses a row."""

import itertools

from checks import Checks
from model_verdicts import judged_cases, plain_lowest
from test_verdicts import exact_cases, lossy_cases

from kindgrove.errors import NotGiven
from kindgrove.grids import Grid
from kindgrove.kinds import Calls, Kind
from kindgrove.ranges import Ranges
from kindgrove.trees import Tree
from kindgrove.verdicts import is_exact, lowest, miss


def leveled(bad, own=lambda key: 0):
    """The label n first stands n levels above the rows: a join of two labels n is n + 1, otherwise the greater one."""
    return Calls(own=own, join=lambda one, other: min(one + 1, 150) if one == other and (one > 0 or other == 0)
                 else max(one, other), consistent=lambda label, question: label < bad, matches=Grid(True))


def shapes(keys, height, many):
    """All shapes of a height with at most so many rows, each node with any number of entries."""
    if height == 1:
        return [list(row) for size in range(1, many + 1) for row in itertools.product(keys, repeat=size)]
    found, waiting = [], [([], many)]
    while waiting:
        parts, left = waiting.pop()
        for part in shapes(keys, height - 1, left):
            longer = [*parts, part]
            found.append(longer)
            if left > rows_in(part):
                waiting.append((longer, left - rows_in(part)))
    return found


def rows_in(shape):
    return sum(rows_in(part) if isinstance(part, list) else 1 for part in shape)


class LowestTest(Checks):

    def test_example(self):
        kind, _, _ = next(lossy_cases())
        self.assertEqual(lowest(kind, ["ab"], ["a"]), 2)
        self.assertIsNone(lowest(kind, ["ab"], ["", "b"]))

    def test_exact_kinds(self):
        for kind, keys, questions in exact_cases():
            self.assertIsNone(lowest(kind, keys, questions))

    def test_arbitrary_kinds(self):
        found = {}
        for kind, keys, questions in judged_cases(240):
            wanted = plain_lowest(kind, keys, questions)
            self.assertEqual(lowest(kind, keys, questions), wanted)
            self.assertEqual(lowest(questions=tuple(questions), keys=tuple(keys[::-1]), kind=kind), wanted)
            self.assertEqual(wanted is None, is_exact(kind, keys, questions))
            found[wanted] = found.get(wanted, 0) + 1
        self.assertGreater(min(found.get(height, 0) for height in (None, 2, 3)), 1)

    def test_each_height(self):
        for bad in (1, 2, 3, 4, 20, 60, 150):
            self.assertEqual(lowest(leveled(bad), ["a"], ["q"]), bad + 1)
        self.assertEqual(lowest(leveled(0), ["a"], ["q"]), 2)
        self.assertIsNone(lowest(leveled(151), ["a"], ["q"]))

    def test_own_label_is_bad_one_level_above_the_row(self):
        kind = Calls(own=lambda key: key, join=max, consistent=Grid(), matches=lambda key, question: key == question)
        self.assertEqual(lowest(kind, [1], [1]), 2)
        self.assertIsNone(lowest(kind, [1], [2]))

    def test_not_lower_than_a_miss_of_fewest_rows(self):
        """Fewest rows and least height are two questions: a wide low tree may miss with more rows than a high one."""
        joins = {(0, 0): 1, (1, 0): 2, (2, 0): "bad", (1, 1): "bad"}
        kind = Calls(own=lambda key: 0, join=lambda one, other: joins.get((one, other), 3),
                     consistent=lambda label, question: label != "bad", matches=Grid(True))
        self.assertEqual(lowest(kind, ["a"], ["q"]), 2)
        joins[2, 0] = 3
        self.assertEqual(lowest(kind, ["a"], ["q"]), 3)
        self.assertIsNotNone(miss(kind, ["a"], ["q"]))

    def test_against_all_trees_of_few_rows(self):
        tried = 0
        for kind, keys, questions in judged_cases(90):
            height = lowest(kind, keys, questions)
            for levels, many in ((2, 4), (3, 4), (4, 3)) if 0 < len(keys) < 3 else ():
                lost = False
                for shape in shapes(keys, levels, many):
                    tree = Tree.packed(kind, shape, most=50)
                    lost = lost or any(tree.lost(question) for question in questions)
                tried += lost
                if height is None or levels < height:
                    self.assertFalse(lost)
        self.assertGreater(tried, 5)

    def test_a_tree_of_the_least_height_misses_a_row(self):
        for bad in (1, 2, 3, 4):
            kind, shape = leveled(bad), ["a", "a"]
            for _ in range(bad):
                self.assertEqual(Tree.packed(kind, shape).lost("q"), [])
                shape = [shape, shape]
            tree = Tree.packed(kind, shape)
            self.assertEqual((tree.height, bool(tree.lost("q"))), (lowest(kind, ["a"], ["q"]), True))

    def test_a_key_that_comes_in_on_the_right_side_only(self):
        """The bad label has the key only by a label joined from the right, one level higher."""
        joins = {("a", "b"): "ab", ("c", "ab"): "bad"}
        kind = Calls(own=lambda key: key, join=lambda one, other: joins.get((one, other), "z"),
                     consistent=lambda label, question: label != "bad", matches=lambda key, question: key == question)
        self.assertEqual(lowest(kind, ["a", "b", "c"], ["b"]), 3)
        self.assertEqual(lowest(kind, ["a", "b", "c"], ["a", "b", "c"]), 3)
        joins["z", "ab"] = "z"
        self.assertIsNone(lowest(kind, ["a", "b"], ["b"]))

    def test_labels_that_stay_while_keys_still_come_to_them(self):
        """All labels are there from the height 2 on; a key reaches the bad label level by level only."""
        many = 30

        def join(one, other):
            # A key moves one label on by each join from the right with the label that it has.
            return (other + 1) % many if one == other else one

        kind = Calls(own=lambda key: key if key < many else 0, join=join,
                     consistent=lambda label, question: label != many - 1,
                     matches=lambda key, question: key == question)
        keys = [*range(many), many]
        self.assertEqual(lowest(kind, keys, [many]), plain_lowest(kind, keys, [many]))

    def test_nothing_given(self):
        self.assertIsNone(lowest(Kind(), [], []))
        self.assertIsNone(lowest(Kind(), [], [1]))
        self.assertIsNone(lowest(Ranges(), [1], []))

    def test_many_labels(self):
        kind = Calls(own=lambda key: key, join=lambda one, other: (one * 7 + other * 3 + 1) % 200,
                     consistent=lambda label, question: label != 199, matches=lambda key, question: key == question)
        self.assertEqual(lowest(kind, list(range(60)), list(range(60))), 2)
        self.assertEqual(lowest(leveled(150, own=lambda key: key % 2), list(range(60)), list(range(60))), 150)

    def test_not_given(self):
        self.fails(NotGiven, lambda: lowest(Kind(), [1], [1]), name="own")
