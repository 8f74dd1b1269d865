"""[3.1] to [3.4] The base classes of kinds, and kinds that are made of functions."""

from checks import Checks

from kindgrove.counted import Counted
from kindgrove.errors import BadValue, NotGiven
from kindgrove.grids import Grid
from kindgrove.kinds import Calls, Kind, Measured

ARGUMENTS = {
    "own": ["key"], "join": ["one", "other"], "consistent": ["label", "question"], "matches": ["key", "question"],
    "penalty": ["label", "key"], "sides": ["labels"], "distance": ["key", "point"], "bound": ["label", "point"],
}
NEEDED = ["own", "join", "consistent", "matches"]
SIDES = [[], [1], [0, 1], [0, 1, 1], [0, 0, 1, 1], [0, 0, 1, 1, 1]]


class BaseTest(Checks):

    def check_not_given(self, holder, name):
        numbers = list(range(len(ARGUMENTS[name])))
        self.fails(NotGiven, lambda: getattr(holder, name)(*numbers), name=name)
        self.fails(NotGiven, lambda: getattr(holder, name)(**dict(zip(ARGUMENTS[name], numbers))), name=name)

    def test_kind(self):
        for name in NEEDED:
            self.check_not_given(Kind(), name)
        self.assertFalse(isinstance(Kind(), Measured))
        self.assertFalse(hasattr(Kind(), "distance") or hasattr(Kind(), "bound"))

    def test_measured(self):
        for name in ("distance", "bound"):
            self.check_not_given(Measured(), name)
        self.assertFalse(isinstance(Measured(), Kind))

    def test_penalty(self):
        self.assertEqual([Kind().penalty("label", 7), Kind().penalty(label=1, key=None)], [0, 0])

    def test_sides(self):
        self.assertEqual([Kind().sides(["x"] * many) for many in range(6)], SIDES)
        for many in range(31):
            wanted = [0] * (many // 2) + [1] * (many - many // 2)
            self.assertEqual(Kind().sides(list(range(many, 0, -1))), wanted)
            self.assertIs(type(Kind().sides(labels=["x"] * many)), list)

    def test_sides_changes_nothing_and_is_new(self):
        labels = [3, 1, 2]
        Kind().sides(labels).clear()
        self.assertEqual((labels, Kind().sides(labels)), ([3, 1, 2], [0, 1, 1]))

    def test_kinds_that_give_one_method(self):
        class Half(Kind, Measured):
            def own(self, key):
                return key

            def bound(self, label, point):
                return 3

        self.assertEqual([Half().own(5), Half().bound(1, 2), Half().penalty(1, 2)], [5, 3, 0])
        for name in ("join", "consistent", "matches", "distance"):
            self.check_not_given(Half(), name)


def noted(name, asked, result):
    """A function that notes how it is called."""
    def function(*told, **named):
        asked.append((name, told, named))
        return result

    return function


class CallsTest(BaseTest):

    def setUp(self):
        self.asked = []
        self.results = {name: object() for name in ARGUMENTS}

    def made(self, *left_out):
        return Calls(**{name: noted(name, self.asked, self.results[name]) for name in ARGUMENTS
                        if name not in left_out})

    def test_it_is_a_kind_that_is_measured(self):
        self.assertTrue(issubclass(Calls, Kind) and issubclass(Calls, Measured))
        self.assertTrue(isinstance(self.made(), Kind) and isinstance(self.made("distance", "bound"), Measured))

    def test_each_method_calls_what_was_passed_by_position(self):
        kind = self.made()
        for name, arguments in ARGUMENTS.items():
            told = tuple(f"{name} {argument}" for argument in arguments)
            for call in (lambda: getattr(kind, name)(*told), lambda: getattr(kind, name)(**dict(zip(arguments, told)))):
                self.asked.clear()
                self.assertIs(call(), self.results[name])
                self.assertEqual(self.asked, [(name, told, {})])

    def test_sides_gets_the_labels_themselves(self):
        labels = [3, 1]
        self.made().sides(labels)
        self.assertIs(self.asked[0][1][0], labels)

    def test_nothing_is_called_when_it_is_made(self):
        self.made()
        self.assertEqual(self.asked, [])

    def test_what_is_left_out(self):
        kind = self.made("penalty", "sides", "distance", "bound")
        self.check_left_out(kind)
        functions = {name: noted(name, self.asked, self.results[name]) for name in NEEDED}
        self.check_left_out(Calls(penalty=None, sides=None, distance=None, bound=None, **functions))

    def check_left_out(self, kind):
        self.assertEqual([kind.penalty(1, 2), kind.penalty("a", None)], [0, 0])
        self.assertEqual([kind.sides(["x"] * many) for many in range(6)], SIDES)
        for name in ("distance", "bound"):
            self.check_not_given(kind, name)
        self.assertEqual(self.asked, [])

    def test_each_one_left_out_alone(self):
        for name in ("penalty", "sides", "distance", "bound"):
            kind = self.made(name)
            for other in ARGUMENTS:
                if other != name:
                    self.assertIs(getattr(kind, other)(*ARGUMENTS[other]), self.results[other])
        self.assertEqual(self.made("sides").penalty(1, 2), self.results["penalty"])
        self.check_not_given(self.made("bound"), "bound")
        self.check_not_given(self.made("distance"), "distance")

    def test_by_name_only_and_four_are_needed(self):
        functions = {name: noted(name, self.asked, 0) for name in NEEDED}
        with self.assertRaises(TypeError):
            Calls(*functions.values())
        for name in NEEDED:
            rest = {other: function for other, function in functions.items() if other != name}
            with self.assertRaises(TypeError):
                Calls(**rest)

    def test_grids(self):
        join, consistent, matches, penalty = Grid("zz"), Grid(True), Grid(), Grid(0)
        join["a", "b"] = "ab"
        consistent["a", 1] = False
        matches["a", 1] = True
        penalty["a", "b"] = 7
        kind = Calls(own=Counted(lambda key: key, 1), join=join, consistent=consistent, matches=matches,
                     penalty=penalty, distance=Grid(3), bound=Grid(2))
        self.assertEqual([kind.own("a"), kind.join("a", "b"), kind.join("b", "a")], ["a", "ab", "zz"])
        self.assertEqual([kind.consistent("a", 1), kind.consistent("a", 2)], [False, True])
        self.assertEqual([kind.matches("a", 1), kind.matches("a", 2)], [True, False])
        self.assertEqual([kind.penalty("a", "b"), kind.penalty("b", "a")], [7, 0])
        self.assertEqual([kind.distance(1, 2), kind.bound(1, 2)], [3, 2])
        self.fails(BadValue, lambda: kind.join("a", True), value=True)
        # The grid is called, not copied.
        join["a", "c"] = "ac"
        self.assertEqual(kind.join("a", "c"), "ac")

    def test_grids_that_are_false_themselves(self):
        functions = {name: noted(name, self.asked, 0) for name in NEEDED}
        kind = Calls(penalty=Grid(5), distance=Grid(4), bound=Grid(3), **functions)
        self.assertEqual([kind.penalty(1, 2), kind.distance(1, 2), kind.bound(1, 2)], [5, 4, 3])

    def test_counted_functions(self):
        counted = {name: Counted(noted(name, self.asked, self.results[name]), len(arguments))
                   for name, arguments in ARGUMENTS.items()}
        kind = Calls(**counted)
        for name, arguments in ARGUMENTS.items():
            for many in (1, 2):
                self.assertIs(getattr(kind, name)(*arguments), self.results[name])
                self.assertEqual(counted[name].calls, many)
        self.assertEqual(self.asked, [(name, tuple(told), {}) for name, told in ARGUMENTS.items() for _ in range(2)])

    def test_errors_of_functions_come_through(self):
        def not_given(*told):
            raise NotGiven("something")

        kind = Calls(**{name: not_given for name in ARGUMENTS})
        for name, arguments in ARGUMENTS.items():
            self.fails(NotGiven, lambda: getattr(kind, name)(*arguments), name="something")
