"""[10.1] to [10.3] Nearest rows, and rows within a limit, against a plain look at all rows."""

import random

from checks import Checks
from sample_kinds import odd_things

from kindgrove.both import Both, Coarse
from kindgrove.counted import Counted
from kindgrove.errors import BadCount, BadValue, NotGiven
from kindgrove.grids import Grid
from kindgrove.kinds import Calls, Kind, Measured
from kindgrove.nearest import nearest, nodes_for, tightest, within
from kindgrove.ranges import Boxes, Ranges
from kindgrove.rests import Rests, Stems
from kindgrove.trees import Tree
from kindgrove.values import is_plain


class Lengths(Stems, Measured):
    """Strings; a point is a length."""

    def distance(self, key, point):
        return abs(len(key) - point)

    def bound(self, label, point):
        return max(0, len(label) - point)


def measured_cases():
    """Kinds with right bounds, keys and points."""
    yield Ranges(), list(range(0, 40, 3)), [-5, 0, 7, 20, 100]
    yield Ranges(), [5, 5, 5, 6], [5, 6, 0]
    yield Boxes(2), [((at, at + 2), (7 * at % 11, 7 * at % 11)) for at in range(12)], [(0, 0), (5, 5), (20, -3)]
    yield Both(Ranges(), Lengths()), [(at, "ab"[:at % 3]) for at in range(9)], [(0, 2), (4, 0), (9, 9)]
    coarse = Coarse(Ranges(), lambda label: (label[0] // 5 * 5, -(-label[1] // 5) * 5))
    yield coarse, list(range(0, 30, 4)), [0, 11, 30]
    yield Lengths(), ["", "a", "ab", "abc", "b", "abcd"], [0, 2, 9]


def random_trees(kind, keys, seed):
    """Trees packed, grown, with rows dropped, tightened."""
    chance = random.Random(seed)
    for many in range(14):
        tree = Tree(kind, most=chance.randrange(2, 6))
        if many % 3 == 0:
            shape = [[chance.choice(keys) for _ in range(chance.randrange(1, 4))] for _ in range(3)]
            tree = Tree.packed(kind, [shape, shape[:2]])
        for _ in range(many * 2):
            tree.put(chance.choice(keys))
        for _ in range(chance.randrange(many + 1)):
            if tree and many % 4 < 2:
                tree.drop(chance.choice(tree.numbers()))
        if many % 5 == 0:
            tree.tighten()
        yield tree


def by_distance(tree, point):
    return sorted((tree.kind.distance(tree.key_of(number), point), number) for number in tree.numbers())


def nodes_in(view, path=(), bounds=()):
    """Each node of a view as (path, labels on the way to it, what stands in it)."""
    word, inside = view
    yield path, bounds, word, inside
    if word == "node":
        for at, (label, below) in enumerate(inside):
            yield from nodes_in(below, (*path, at), (*bounds, label))


def opened_up_to(tree, limit, bound):
    """The nodes all of whose entries on the way have a bound of at most a limit."""
    return [(path, word, inside) for path, labels, word, inside in nodes_in(tree.view())
            if all(bound(label) <= limit for label in labels)]


class WithinTest(Checks):

    def test_against_all_rows(self):
        for kind, keys, points in measured_cases():
            for tree in random_trees(kind, keys, 1):
                for point in points:
                    for limit in (-1, 0, 1, 4, 10, 10 ** 30):
                        wanted = sorted(number for far, number in by_distance(tree, point) if far <= limit)
                        self.assertEqual(within(tree, point, limit), wanted)
                        self.assertEqual(within(limit=limit, point=point, tree=tree, bound=kind.bound), wanted)

    def test_example(self):
        tree = Tree.packed(Ranges(), [[3, 8], [20, 21, 25]])
        self.assertEqual(within(tree, 12, 9), [0, 1, 2, 3])

    def test_by_what_a_bound_that_is_not_right_opens(self):
        chance = random.Random(3)
        for kind, keys, points in measured_cases():
            for tree in random_trees(kind, keys, 2):
                grid = Grid(0)
                for _, labels, _, _ in nodes_in(tree.view()):
                    for label in labels:
                        for point in points:
                            grid[label, point] = chance.randrange(-3, 12)
                for point in points:
                    for limit in (0, 3, 8):
                        opened = opened_up_to(tree, limit, lambda label: grid[label, point])
                        numbers = [number for _, word, inside in opened if word == "leaf" for number in inside]
                        wanted = [number for number in numbers if kind.distance(tree.key_of(number), point) <= limit]
                        self.assertEqual(within(tree, point, limit, bound=grid), sorted(wanted))

    def test_the_root_is_opened_whatever_its_entries_promise(self):
        tree = Tree.packed(Ranges(), [1, 2, 3])
        self.assertEqual(within(tree, 2, 1, bound=Grid(99)), [0, 1, 2])
        self.assertEqual(within(Tree(Ranges()), 2, 1, bound=Grid(99)), [])
        self.assertEqual(within(Tree.packed(Ranges(), [[1, 2, 3]]), 2, 1, bound=Grid(99)), [])

    def test_an_own_bound_that_is_passed_is_called_in_the_place_of_the_kinds(self):
        class Lacking(Ranges):
            bound = Measured.bound

        tree = Tree.packed(Lacking(), [[1, 2], [9]])
        self.assertEqual(within(tree, 2, 1, bound=Grid(0)), [0, 1])
        self.assertEqual(within(tree, 2, 1, bound=Ranges().bound), [0, 1])
        self.fails(NotGiven, lambda: within(tree, 2, 1), name="bound")

    def test_a_grid_that_is_false_itself_is_a_bound(self):
        grid = Grid(5)
        self.assertFalse(grid)
        self.assertEqual(within(Tree.packed(Ranges(), [[1], [2]]), 1, 4, bound=grid), [])
        self.assertEqual(within(Tree.packed(Ranges(), [[1], [2]]), 1, 5, bound=grid), [0, 1])


class NearestTest(Checks):

    def test_against_all_rows(self):
        for kind, keys, points in measured_cases():
            for tree in random_trees(kind, keys, 4):
                for point in points:
                    rows = by_distance(tree, point)
                    for many in {0, 1, 2, 5, len(rows) - 1, len(rows), len(rows) + 1, 10 ** 30} - {-1}:
                        self.assertEqual(nearest(tree, point, many), rows[:many])
                        self.assertEqual(nearest(many=many, point=point, tree=tree, bound=kind.bound), rows[:many])
                        self.assertEqual(nearest(tree, point, many, bound=lambda label, point: -7), rows[:many])

    def test_example(self):
        self.assertEqual(nearest(Tree.packed(Ranges(), [[3, 8], [20, 21, 25]]), 12, 2), [(4, 1), (8, 2)])

    def test_equal_distances_by_number(self):
        tree = Tree.packed(Ranges(), [[9, 1], [9], [1, 5], [9, 1]])
        self.assertEqual(nearest(tree, 5, 4), [(0, 4), (4, 0), (4, 1), (4, 2)])
        for many in range(8):
            self.assertEqual(nearest(tree, 5, many), by_distance(tree, 5)[:many])

    def test_a_lower_number_behind_a_bound_that_is_just_the_last_distance(self):
        tree = Tree.packed(Ranges(), [[1, 9], [5, 3]])
        self.assertEqual(nearest(tree, 4, 1), [(1, 2)])
        self.assertEqual(nodes_for(tree, 4, 1), [(), (0,), (1,)])
        far = Tree.packed(Ranges(), [[6], [2]])
        self.assertEqual((nearest(far, 4, 1), nodes_for(far, 4, 1)), ([(2, 0)], [(), (0,), (1,)]))

    def test_empty_tree(self):
        for many in (1, 5):
            self.assertEqual(nearest(Tree(Ranges()), 3, many), [])
            self.assertEqual(nodes_for(Tree(Ranges()), 3, many), [()])
        self.assertEqual((nearest(Tree(Ranges()), 3, 0), nodes_for(Tree(Ranges()), 3, 0)), ([], []))

    def test_lists_are_new(self):
        tree = Tree.packed(Ranges(), [[1, 9], [5, 3]])
        for _ in range(2):
            for ask in (nearest, nodes_for, within):
                found = ask(tree, 4, 2)
                self.assertEqual(found, ask(tree, 4, 2))
                found.clear()


def lowered(tree, points, chance):
    """A right bound that may be lower for a node than for the one above it."""
    grid = Grid(None)
    for _, labels, word, inside in nodes_in(tree.view()):
        for label in labels if word == "leaf" else ():
            for point in points:
                far = min([tree.kind.distance(tree.key_of(number), point) for number in inside])
                least = grid[label, point]
                grid[label, point] = far if least is None else min(far, least)
    for place in grid.places():
        grid[place] = grid[place] - chance.choice([0, 0, 1, 5])
    return grid


class NodesTest(Checks):

    def wanted(self, tree, point, many, bound):
        rows = by_distance(tree, point)[:many]
        everything = [path for path, _, _, _ in nodes_in(tree.view())]
        if many == 0:
            return []
        if len(rows) < many:
            return sorted(everything)
        return sorted(path for path, _, _ in opened_up_to(tree, rows[-1][0], lambda label: bound(label, point)))

    def test_nodes_and_calls(self):
        chance = random.Random(9)
        for kind, keys, points in measured_cases():
            for tree in random_trees(kind, keys, 5):
                given = [tree.key_of(number) for number in tree.numbers()]
                views = {path: (word, inside) for path, _, word, inside in nodes_in(tree.view())}
                lower = lowered(tree, points, chance)
                for bound in (kind.bound, lambda label, point: 0, lower):
                    for point in points:
                        for many in {0, 1, 2, 4, len(given), len(given) + 1}:
                            wanted = self.wanted(tree, point, many, bound)
                            self.assertEqual(nodes_for(tree, point, many, bound=bound), wanted)
                            self.check_calls(tree, kind, bound, point, many, [views[path] for path in wanted])

    def check_calls(self, tree, kind, bound, point, many, opened):
        """The bound is called once for each entry of an opened node, the distance once for each row of a leaf."""
        distances, bounds = Counted(kind.distance), Counted(bound)
        asked = []
        twin = tree.copy()
        twin.kind = Calls(own=kind.own, join=kind.join, consistent=None, matches=None, distance=distances, bound=bounds)
        self.assertEqual(nearest(twin, point, many), by_distance(tree, point)[:many])
        self.assertEqual(bounds.clear(), sum(len(inside) for word, inside in opened if word == "node"))
        self.assertEqual(distances.clear(), sum(len(inside) for word, inside in opened if word == "leaf"))
        noting = Counted(lambda label, point: asked.append((label, point)) or bound(label, point))
        nearest(twin, point, many, bound=noting)
        wanted = [(label, point) for word, inside in opened if word == "node" for label, _ in inside]
        self.assertEqual(sorted(asked, key=repr), sorted(wanted, key=repr))
        self.assertEqual(bounds.calls, 0)

    def test_own_bound(self):
        for kind, keys, points in measured_cases():
            for tree in random_trees(kind, keys, 6):
                for point in points:
                    for many in (1, 3):
                        self.assertEqual(nodes_for(point=point, many=many, tree=tree),
                                         self.wanted(tree, point, many, kind.bound))

    def test_paths_ascend_as_tuples(self):
        tree = Tree.packed(Ranges(), [[[at] for at in range(12)]], most=12)
        self.assertEqual(nodes_for(tree, 0, 12), [(), (0,), *[(0, at) for at in range(12)]])

    def test_the_tightest_bound_opens_least(self):
        for kind, keys, points in [*measured_cases()][:3]:
            grid = tightest(kind, keys[:8], points)
            for tree in random_trees(kind, keys[:8], 7):
                for point in points:
                    for many in (1, 2, 6):
                        self.assertEqual(nearest(tree, point, many, bound=grid), nearest(tree, point, many))
                        self.assertLessEqual(set(nodes_for(tree, point, many, bound=grid)),
                                             set(nodes_for(tree, point, many)))
                    self.assertEqual(within(tree, point, 4, bound=grid), within(tree, point, 4))

    def test_five_hundred_rows(self):
        tree = Tree(Ranges(), most=2)
        for at in range(300):
            tree.put(at * 37 % 301)
        self.assertEqual(nearest(tree, 150, 300), by_distance(tree, 150))
        wide = Tree(Boxes(2), most=8)
        for at in range(500):
            wide.put(((at * 7 % 50, at * 7 % 50 + 1), (at * 11 % 43, at * 11 % 43)))
        for many in (1, 100, 499, 500, 501):
            self.assertEqual(nearest(wide, (25, 20), many), by_distance(wide, (25, 20))[:many])


class ErrorsTest(Checks):

    def setUp(self):
        self.tree = Tree.packed(Ranges(), [[1, 9], [5, 3]])
        self.plain_tree = Tree.packed(Rests(), [[1, 9], [5, 3]])
        self.before = self.tree.view()

    def tearDown(self):
        self.assertEqual(self.tree.view(), self.before)

    def test_points(self):
        for wrong in odd_things():
            if not is_plain(wrong):
                for tree in (self.tree, self.plain_tree):
                    for number in (2, -1, True, "2", None):
                        for ask in (within, nearest, nodes_for):
                            self.fails(BadValue, lambda: ask(tree, wrong, number), value=wrong)
                            self.fails(BadValue, lambda: ask(tree, wrong, number, bound=Grid(0)), value=wrong)

    def test_limits_and_numbers(self):
        for wrong in [*odd_things(), True, False, 1.0, "1"]:
            if not isinstance(wrong, int) or isinstance(wrong, bool):
                for tree in (self.tree, self.plain_tree):
                    for ask in (within, nearest, nodes_for):
                        self.fails(BadCount, lambda: ask(tree, 4, wrong), count=wrong)
        for wrong in (-1, -10 ** 30):
            for tree in (self.tree, self.plain_tree):
                for ask in (nearest, nodes_for):
                    self.fails(BadCount, lambda: ask(tree, 4, wrong), count=wrong)
            self.assertEqual(within(self.tree, 4, wrong), [])

    def test_kinds_without_distances(self):
        for tree in (self.plain_tree, Tree(Rests()), Tree(Kind()), Tree(Stems())):
            for bound in (None, Grid(0)):
                for number in (0, 1, 5):
                    for ask in (within, nearest, nodes_for):
                        self.fails(NotGiven, lambda: ask(tree, 4, number, bound=bound), name="distance")

    def test_what_is_not_given_comes_through(self):
        stems = Stems()
        told = {"own": stems.own, "join": stems.join, "consistent": stems.consistent, "matches": stems.matches}
        lacking = Tree.packed(Calls(**told), [["a"], ["b"]])
        far = Tree.packed(Calls(**told, bound=Grid(0)), [["a"], ["b"]])
        near = Tree.packed(Calls(**told, distance=Grid(0)), [["a"], ["b"]])
        for ask in (within, nearest, nodes_for):
            with self.assertRaises(NotGiven):
                ask(lacking, "p", 1)
            self.fails(NotGiven, lambda: ask(far, "p", 1), name="distance")
            self.fails(NotGiven, lambda: ask(near, "p", 1), name="bound")
            self.fails(NotGiven, lambda: ask(lacking, "p", 1, bound=Grid(0)), name="distance")
        self.assertEqual(within(near, "p", 1, bound=Grid(0)), [0, 1])
        self.assertEqual(nearest(near, "p", 9, bound=Grid(0)), [(0, 0), (0, 1)])
        for tree in (Tree(lacking.kind), Tree(far.kind), Tree(near.kind)):
            self.assertEqual((within(tree, "p", 1), nearest(tree, "p", 1), nodes_for(tree, "p", 1)), ([], [], [()]))

    def test_parts_without_distances(self):
        both = Tree.packed(Both(Ranges(), Stems()), [[(1, "a")], [(5, "b")]])
        coarse = Tree.packed(Coarse(Stems(), lambda label: label), [["a"], ["b"]])
        for ask in (within, nearest, nodes_for):
            for tree, point in ((both, (1, "p")), (coarse, "p")):
                with self.assertRaises(NotGiven) as caught:
                    ask(tree, point, 9)
                self.assertIn(caught.exception.name, ("distance", "bound"))
                self.fails(NotGiven, lambda: ask(tree, point, 9, bound=Grid(0)), name="distance")
            self.fails(BadCount, lambda: ask(both, (1, "p"), None), count=None)

    def test_bound_by_name_only(self):
        for ask in (within, nearest, nodes_for):
            with self.assertRaises(TypeError):
                ask(self.tree, 4, 1, Grid(0))
