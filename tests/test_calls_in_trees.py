"""Parts 7 and 8 for kinds that are made by Calls, and for rules that are grids or counted functions."""

import test_model
from checks import Checks
from sample_kinds import Texts, snapshot

from kindgrove.counted import Counted
from kindgrove.errors import BadSplit, BadValue, NotGiven
from kindgrove.grids import Grid
from kindgrove.kinds import Calls, Kind
from kindgrove.ranges import Ranges
from kindgrove.trees import Tree

METHODS = ["own", "join", "consistent", "matches", "penalty", "sides"]
SHAPE = [[[3, 8], [20, 21, 25]], [[4, 6], [30]], [[9]]]


def calls_of(kind, **others):
    """The kind, made by Calls of its methods, but for some others."""
    return Calls(**{**{name: getattr(kind, name) for name in METHODS}, **others})


def grid_of(function, labels, questions, default=False):
    grid = Grid(default)
    for label in labels:
        for question in questions:
            grid[label, question] = function(label, question)
    return grid


def labels_in(view):
    if view[0] == "leaf":
        return []
    return [label for entry in view[1] for label in [entry[0], *labels_in(entry[1])]]


class DeedsTest(test_model.ModelTest):
    """The runs of deeds of test_model, with kinds that are made by Calls."""

    def run_deeds(self, kind, most, seed, questions):
        super().run_deeds(calls_of(kind), most, seed, questions)


class KindTest(Checks):

    def test_penalty_and_sides_left_out(self):
        texts = Texts()
        plain = Calls(own=texts.own, join=texts.join, consistent=texts.consistent, matches=texts.matches)
        tree = Tree(plain, most=2)
        for key in range(5):
            tree.put(key)
        model = Tree(Plain(), most=2)
        for key in range(5):
            model.put(key)
        self.assertEqual(snapshot(tree), snapshot(model))

    def test_a_kind_of_grids(self):
        keys = ["a", "b", "c"]
        join = Grid("all")
        for key in keys:
            join[key, key] = key
        consistent = Grid(True)
        for key in keys:
            for question in keys:
                consistent[key, question] = key == question
        matches = Grid()
        for key in keys:
            matches[key, key] = True
        kind = Calls(own=lambda key: key, join=join, consistent=consistent, matches=matches, penalty=Grid(0))
        tree = Tree.packed(kind, [[["a", "a"], ["b"]], [["c", "c"]]])
        self.assertEqual([label for label in labels_in(tree.view())], ["all", "a", "b", "c", "c"])
        self.assertEqual([list(tree.search(key)) for key in keys], [[0, 1], [2], [3, 4]])
        self.assertEqual([tree.opened("c"), tree.opened("nothing")],
                         [[(), (0,), (1,), (1, 0)], [(), (0,), (0, 0), (0, 1), (1,), (1, 0)]])

    def test_counted_functions_of_a_kind(self):
        ranges = Ranges()
        counted = {name: Counted(getattr(ranges, name), 1 if name in ("own", "sides") else 2) for name in METHODS}
        tree = Tree.packed(Calls(**counted), SHAPE)
        self.assertEqual({name: counted[name].clear() for name in METHODS},
                         {"own": 9, "join": 6, "consistent": 0, "matches": 0, "penalty": 0, "sides": 0})
        self.assertEqual(list(tree.search((5, 20))), [1, 2, 6, 8])
        self.assertEqual({name: counted[name].clear() for name in METHODS},
                         {"own": 0, "join": 0, "consistent": 8, "matches": 8, "penalty": 0, "sides": 0})
        tree.put(31)
        self.assertEqual({name: counted[name].clear() for name in METHODS},
                         {"own": 1, "join": 2, "consistent": 0, "matches": 0, "penalty": 5, "sides": 0})

    def test_wrong_labels_and_sides(self):
        for wrong in ([3], True, 1.5, Grid(), (1, [2])):
            self.fails(BadValue, lambda: Tree(calls_of(Ranges(), own=lambda key: wrong)).put(3), value=wrong)
            bad_join = calls_of(Ranges(), join=lambda one, other: wrong)
            self.fails(BadValue, lambda: Tree.packed(bad_join, [[1, 2], [3]]), value=wrong)
        tree = Tree.packed(calls_of(Ranges(), sides=lambda labels: [0] * len(labels)), [1, 2], most=2)
        self.fails(BadSplit, lambda: tree.put(3))
        self.assertEqual(tree.view(), ("leaf", (0, 1)))

    def test_grid_that_gives_labels_for_some_keys_only(self):
        kind = calls_of(Ranges(), join=Grid(None))
        tree = Tree.packed(kind, [[1, 2], [3]])
        self.assertEqual(labels_in(tree.view()), [None, (3, 3)])

    def test_not_given_comes_through(self):
        def not_given(*told):
            raise NotGiven("penalty")

        tree = Tree.packed(calls_of(Ranges(), penalty=not_given), [[1], [5]])
        before = snapshot(tree)
        self.fails(NotGiven, lambda: tree.put(3), name="penalty")
        self.assertEqual(snapshot(tree), before)


class Plain(Texts):
    """Texts with the penalty and the sides of the base class."""

    penalty = Kind.penalty
    sides = Kind.sides


class RuleTest(Checks):

    def setUp(self):
        self.asked = Counted(Ranges().consistent)
        self.tree = Tree.packed(calls_of(Ranges(), consistent=self.asked), SHAPE)
        self.labels = labels_in(self.tree.view())
        self.questions = [(5, 20), (4, 4), (30, 40), (7, 3), (0, 99)]

    def test_grid_as_the_rule(self):
        rule = lambda label, question: label[0] % 2 == 1 and question[0] <= label[1]
        for default in (True, False):
            grid = grid_of(rule, self.labels, self.questions, default)
            for question in self.questions:
                for method in (self.tree.search, self.tree.opened, self.tree.lost):
                    self.assertEqual(list(method(question, grid)), list(method(question, rule)))
                    self.assertEqual(list(method(question=question, rule=grid)), list(method(question, rule)))
        self.assertEqual(self.asked.calls, 0)

    def test_grid_that_is_false_itself(self):
        self.assertEqual(list(self.tree.search((5, 20), Grid())), [])
        self.assertEqual(self.tree.opened((5, 20), Grid()), [()])
        self.assertEqual(self.tree.lost((5, 20), Grid()), [1, 2, 6, 8])
        self.assertEqual(list(self.tree.search((5, 20), Grid(True))), [1, 2, 6, 8])
        self.assertEqual(len(self.tree.opened((5, 20), Grid(True))), 9)
        self.assertEqual(self.tree.lost((5, 20), Grid(True)), [])
        self.assertEqual(self.asked.calls, 0)

    def test_the_grid_is_not_changed(self):
        grid = Grid()
        grid[(3, 25), (5, 20)] = True
        self.assertEqual(self.tree.opened((5, 20), grid), [(), (0,)])
        self.assertEqual(grid.places(), [((3, 25), (5, 20))])

    def test_counted_rule(self):
        rule = Counted(Ranges().consistent)
        for question in self.questions:
            opened = self.tree.opened(question)
            self.asked.clear()
            entries = 0
            for path in opened:
                node = self.tree.view()
                for at in path:
                    node = node[1][at][1]
                entries += len(node[1]) if node[0] == "node" else 0
            for method in (self.tree.search, self.tree.opened):
                list(method(question, rule))
                self.assertEqual((rule.clear(), self.asked.calls), (entries, 0))
                list(method(question))
                self.assertEqual((rule.calls, self.asked.clear()), (0, entries))

    def test_counted_grid_as_the_rule(self):
        rule = Counted(grid_of(Ranges().consistent, self.labels, self.questions))
        self.assertEqual(list(self.tree.search((5, 20), rule)), [1, 2, 6, 8])
        self.assertEqual((rule.calls, self.asked.calls), (8, 0))

    def test_search_is_asked_step_by_step(self):
        rule = Counted(lambda label, question: True)
        found = self.tree.search((0, 99), rule)
        self.assertEqual(rule.calls, 0)
        self.assertEqual((next(found), rule.calls), (0, 2))
        self.assertEqual((list(found), rule.calls), ([1, 2, 3, 4, 5, 6, 7, 8], 8))

    def test_account_asks_the_kind(self):
        numbers, left = self.tree.account((5, 20))
        self.assertEqual((numbers, left), ([1, 2, 6, 8], [((1, 1), (30, 30))]))
        self.assertEqual(self.asked.clear(), 8)
        self.assertIs(self.tree.is_account((5, 20), (numbers, left)), True)
        self.assertIs(self.tree.is_account((5, 20), (Grid(), Grid())), False)
