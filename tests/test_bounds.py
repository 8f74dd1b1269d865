"""[10.4] to [10.6] Bounds that are not right, and the tightest one that is."""

import random

from checks import Checks
from model_reach import plain_least, plain_reach, table_kind, terms
from sample_kinds import Noting, Replacing, odd_things
from test_nearest import measured_cases

from kindgrove.both import Both, Coarse
from kindgrove.errors import BadValue, NotGiven, TooMany
from kindgrove.grids import Grid
from kindgrove.kinds import Calls, Kind, Measured
from kindgrove.nearest import bound_miss, is_bound_miss, tightest, within
from kindgrove.ranges import Ranges
from kindgrove.recipes import key_at, rows, shape_of, value
from kindgrove.rests import Rests, Stems
from kindgrove.trees import Tree
from kindgrove.values import is_plain


def measured_kind(seed):
    """A kind of arbitrary joins and distances whose bound is too high at some places, its keys and points."""
    chance = random.Random(seed)
    inner, keys = table_kind(seed, 1 + seed % 9, seed % 5)
    points = [chance.choice([at, f"point {at}", (at, ())]) for at in range(1 + seed % 3)]
    distance, bound = Grid(0), Grid(0)
    for key in keys:
        for point in points:
            distance[key, point] = chance.randrange(8)
    for label, key in sorted(plain_reach(inner, keys)[1], key=repr):
        for point in points:
            least = min(distance[other, point] for held, other in plain_reach(inner, keys)[1] if held == label)
            too_high = chance.random() < [0, 0.05, 0.3][seed % 3]
            bound[label, point] = least + 1 if too_high else chance.randrange(-2, least + 1)
    kind = Calls(own=inner.own, join=inner.join, consistent=None, matches=None, distance=distance, bound=bound)
    return kind, keys, points


def random_cases(many):
    for seed in range(many):
        yield measured_kind(seed)


def plain_wrong(kind, keys, points):
    return {(label, key, point) for label, key in plain_reach(kind, keys)[1] for point in points
            if kind.bound(label, point) > kind.distance(key, point)}


class Shut(Ranges):
    """Ranges whose bound is wrong for the label (1, 5) and the point 5."""

    def bound(self, label, point):
        return 1 if (label, point) == ((1, 5), 5) else super().bound(label, point)


FOUND = ((("own", 1), ("own", 5), ("join", 0, 1)), (1,), 5)


class BoundMissTest(Checks):

    def test_right_bounds(self):
        for kind, keys, points in measured_cases():
            self.assertIsNone(bound_miss(kind, keys[:8], points))
            self.assertIsNone(bound_miss(points=tuple(points), keys=tuple(keys[:8] * 2), kind=kind))

    def test_fewest_rows(self):
        many_rows = set()
        for kind, keys, points in random_cases(150):
            wrong = plain_wrong(kind, keys, points)
            found = bound_miss(kind, keys, points)
            if not wrong:
                self.assertIsNone(found)
                continue
            least_with = plain_least(kind, keys)[1]
            self.assertEqual((type(found), len(found)), (tuple, 3))
            recipe, way, point = found
            self.assertEqual(rows(recipe), min(least_with[label, key] for label, key, _ in wrong))
            self.assertIn((value(kind, recipe), key_at(recipe, way), point), wrong)
            self.assertTrue(all(step[1] in keys for step in recipe if step[0] == "own"))
            self.assertIs(is_bound_miss(kind, keys, points, found), True)
            self.assertEqual(bound_miss(kind, keys, points), found)
            self.check_tree(kind, recipe, way, point)
            many_rows.add(rows(recipe))
        self.assertLessEqual({1, 2}, many_rows)

    def check_tree(self, kind, recipe, way, point):
        """The tree of the recipe's shape leaves the row out."""
        if rows(recipe) <= 60:
            tree, key = Tree.packed(kind, shape_of(recipe)), key_at(recipe, way)
            limit = kind.distance(key, point)
            self.assertEqual(within(tree, point, limit), [])
            found = within(tree, point, limit, bound=lambda label, point: -1)
            self.assertIn(key, [tree.key_of(number) for number in found])

    def test_against_all_terms_of_few_rows(self):
        for kind, keys, points in random_cases(40):
            found = bound_miss(kind, keys, points)
            least = 7 if found is None else rows(found[0])
            for many, some in (terms(kind, keys, 5) if keys else {}).items():
                for label, leaves in some if many < least else ():
                    for key in leaves:
                        self.assertTrue(all(kind.bound(label, point) <= kind.distance(key, point) for point in points))

    def test_example(self):
        recipe, way, point = bound_miss(Shut(), [1, 5], [0, 5])
        self.assertEqual((rows(recipe), value(Shut(), recipe), key_at(recipe, way), point), (2, (1, 5), 5, 5))
        self.assertIsNone(bound_miss(Shut(), [1, 5], [0, 4]))
        self.assertIsNone(bound_miss(Shut(), [1, 4], [5]))

    def test_nothing_given(self):
        self.assertIsNone(bound_miss(Measured(), [], []))
        self.assertIsNone(bound_miss(Measured(), (), [1]))
        lacking = Calls(own=abs, join=max, consistent=None, matches=None)
        self.assertIsNone(bound_miss(lacking, [1], []))

    def test_huge_misses(self):
        kind = Calls(own=lambda key: 0, join=lambda one, other: one + 1 if one == other < 150 else 0, consistent=None,
                     matches=None, distance=Grid(3), bound=lambda label, point: 4 if label == 150 else 3)
        recipe, way, point = bound_miss(kind, ["a", "b"], ["p"])
        self.assertEqual(rows(recipe), 2 ** 150)


class IsBoundMissTest(Checks):

    def judged(self, thing, kind=None, keys=(1, 5), points=(5, 0)):
        found = is_bound_miss(kind or Shut(), list(keys), list(points), thing)
        self.assertIs(is_bound_miss(thing=thing, points=points, keys=keys, kind=kind or Shut()), found)
        return found

    def test_misses_of_any_number_of_rows(self):
        self.assertIs(self.judged(FOUND), True)
        longer = ((("own", 5), ("own", 1), ("join", 1, 0), ("own", 1), ("join", 3, 2)), (1, 1), 5)
        self.assertIs(self.judged(longer), True)

    def test_whatever_object(self):
        for thing in odd_things():
            self.assertIs(self.judged(thing), False)
            self.assertIs(self.judged((thing, *FOUND[1:])), False)
            self.assertIs(self.judged((FOUND[0], thing, FOUND[2])), False)
            self.assertIs(self.judged((*FOUND[:2], thing)), False)
            self.assertIs(self.judged((*FOUND, thing)), False)
            self.assertIs(self.judged(((("own", 1), ("own", thing), ("join", 0, 1)), (1,), 5)), False)

    def test_not_quite(self):
        recipe, way, point = FOUND
        for thing in [list(FOUND), FOUND[:2], (list(recipe), way, point), (recipe, [1], point), (recipe, (0,), point),
                      (recipe, (1, 0), point), (recipe, (), point), (recipe, (True,), point), (recipe, way, 5.0),
                      (recipe, way, 4), (recipe, way, 0), (recipe[:2], (), point), (recipe, way, [5])]:
            self.assertIs(self.judged(thing), False)

    def test_other_keys_and_points(self):
        self.assertIs(self.judged(FOUND, keys=(1,)), False)
        self.assertIs(self.judged(FOUND, keys=()), False)
        self.assertIs(self.judged(FOUND, points=(0,)), False)
        self.assertIs(self.judged(FOUND, points=()), False)
        unused = ((("own", 7), ("own", 1), ("own", 5), ("join", 1, 2)), (1,), 5)
        self.assertIs(self.judged(unused), False)
        self.assertIs(self.judged(unused, keys=(1, 5, 7)), True)
        self.assertIs(self.judged(FOUND, kind=Ranges()), False)

    def test_labels_that_are_not_plain(self):
        class Told(Shut):
            results = {}

            def own(self, key):
                return self.results.get(key, super().own(key))

            def join(self, one, other):
                return self.results.get((one, other), super().join(one, other))

        for results in ({1: [1]}, {5: True}, {((1, 1), (5, 5)): [1, 5]}):
            Told.results = results
            self.assertIs(self.judged(FOUND, kind=Told()), False)

    def test_more_than_two_hundred_labels(self):
        endless = Calls(own=lambda key: 0, join=lambda one, other: max(one, other) + 1, consistent=None, matches=None,
                        distance=Grid(0), bound=Grid(1))
        self.assertIs(self.judged(((("own", 1),), (), 5), kind=endless), True)


class TightestTest(Checks):

    def check(self, kind, keys, points):
        grid = tightest(kind, keys, points)
        self.assertIs(type(grid), Grid)
        pairs = plain_reach(kind, keys)[1]
        wanted = {(label, point): min(kind.distance(key, point) for held, key in pairs if held == label)
                  for label, _ in pairs for point in points}
        self.assertEqual(grid.places(), sorted(wanted, key=repr))
        self.assertEqual({place: grid[place] for place in wanted}, wanted)
        self.assertIsNone(grid["no label", "no point"])
        self.assertEqual(tightest(points=tuple(points * 2), keys=tuple(keys), kind=kind), grid)
        return grid

    def test_place_by_place(self):
        for kind, keys, points in [*random_cases(60)]:
            self.check(kind, keys, points)
        for kind, keys, points in measured_cases():
            self.check(kind, keys[:8], points)

    def test_it_is_right_and_one_more_at_any_place_is_not(self):
        for kind, keys, points in random_cases(60):
            grid = tightest(kind, keys, points)

            def with_bound(bound):
                return Calls(own=kind.own, join=kind.join, consistent=None, matches=None, distance=kind.distance,
                             bound=bound)

            self.assertIsNone(bound_miss(with_bound(grid), keys, points))
            for place in grid.places():
                grid[place] = grid[place] + 1
                recipe, way, point = bound_miss(with_bound(grid), keys, points)
                self.assertEqual((value(kind, recipe), point), place)
                grid[place] = grid[place] - 1
            if bound_miss(kind, keys, points) is None:
                self.assertTrue(all(kind.bound(*place) <= grid[place] for place in grid.places()))

    def test_order_of_places(self):
        kind = Calls(own=lambda key: key, join=Grid("zz"), consistent=None, matches=None, distance=Grid(4), bound=None)
        keys, points = [10, 9, "b", None, (9,)], [100, 20, "a", ()]
        self.assertEqual(tightest(kind, keys, points).places(),
                         sorted(((label, point) for label in [*keys, "zz"] for point in points), key=repr))

    def test_no_bound_is_needed(self):
        kind = Noting(Ranges())
        grid = tightest(Calls(own=kind.own, join=kind.join, consistent=None, matches=None,
                              distance=Ranges().distance), [1, 5], [3])
        self.assertEqual([grid[place] for place in grid.places()], [2, 2, 2])

    def test_nothing_given(self):
        self.assertEqual(tightest(Measured(), [], [1]), Grid(None))
        self.assertEqual(tightest(Ranges(), [1, 5], ()), Grid(None))


class ManyTest(Checks):

    def test_two_hundred_labels(self):
        numbers = list(range(60))

        def kind(bound):
            return Calls(own=lambda key: key, join=lambda one, other: (one * 7 + other * 3 + 1) % 200, consistent=None,
                         matches=None, distance=lambda key, point: abs(key - point), bound=bound)

        self.assertIsNone(bound_miss(kind(Grid(0)), numbers, numbers))
        self.assertEqual(rows(bound_miss(kind(Grid(10 ** 6)), numbers, numbers)[0]), 1)
        self.assertEqual(len(tightest(kind(None), numbers, numbers)), 12000)


class ErrorsTest(Checks):

    endless = Calls(own=lambda key: 0, join=lambda one, other: max(one, other) + 1, consistent=None, matches=None)

    def asks(self):
        return [bound_miss, tightest, lambda kind, keys, points: is_bound_miss(kind, keys, points, None)]

    def test_keys_points_and_distances_in_this_order(self):
        for wrong in odd_things():
            for kind in (Ranges(), Rests(), Kind(), self.endless):
                for ask in self.asks():
                    if not is_plain(wrong):
                        self.fails(BadValue, lambda: ask(kind, [1, wrong, [2]], "no points"), value=wrong)
                        self.fails(BadValue, lambda: ask(kind, [1], [0, wrong, [2]]), value=wrong)
                        self.fails(BadValue, lambda: ask(kind, (), (0, wrong, [2])), value=wrong)
                    if not isinstance(wrong, (list, tuple)):
                        self.fails(BadValue, lambda: ask(kind, [1], wrong), value=wrong)
                        self.fails(BadValue, lambda: ask(kind, [], wrong), value=wrong)

    def test_kinds_without_distances(self):
        for kind in (Rests(), Stems(), Kind(), Replacing(Ranges(), {("own", (1,)): []})):
            for keys in ([], [1], (1, 5)):
                for points in ([], [1], (1, 5)):
                    for ask in self.asks():
                        self.fails(NotGiven, lambda: ask(kind, keys, points), name="distance")

    def test_reach_comes_behind(self):
        class Wrong(Ranges):
            def own(self, key):
                return [key]

        class WrongJoin(Ranges):
            def join(self, one, other):
                return True

        for ask in (bound_miss, tightest):
            self.fails(BadValue, lambda: ask(Wrong(), [1], [1]), value=[1])
            self.fails(BadValue, lambda: ask(WrongJoin(), [1, 2], []), value=True)
            self.fails(TooMany, lambda: ask(self.endless, [1], []))
            self.fails(TooMany, lambda: ask(Ranges(), list(range(20)), [1]))
        self.assertIs(is_bound_miss(Wrong(), [1], [1], ((("own", 1),), (), 1)), False)
        self.assertIs(is_bound_miss(self.endless, [1], [1], None), False)

    def test_what_is_not_given_comes_through(self):
        told = {"own": abs, "join": max, "consistent": None, "matches": None}
        for ask in (bound_miss, tightest):
            self.fails(NotGiven, lambda: ask(Calls(**told, bound=Grid(0)), [1], [1]), name="distance")
        self.fails(NotGiven, lambda: bound_miss(Calls(**told, distance=Grid(0)), [1], [1]), name="bound")
        thing = ((("own", 1),), (), 1)
        self.fails(NotGiven, lambda: is_bound_miss(Calls(**told, bound=Grid(0)), [1], [1], thing), name="distance")
        self.fails(NotGiven, lambda: is_bound_miss(Calls(**told, distance=Grid(0)), [1], [1], thing), name="bound")
        for kind in (Both(Ranges(), Stems()), Coarse(Stems(), lambda label: label)):
            self.assertIsNone(bound_miss(kind, [], [1]))
        self.fails(NotGiven, lambda: tightest(Both(Ranges(), Stems()), [(1, "a")], [(1, 1)]), name="distance")
        self.fails(NotGiven, lambda: tightest(Coarse(Stems(), lambda label: label), ["a"], [1]), name="distance")
