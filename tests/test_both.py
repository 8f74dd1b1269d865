"""[3.12], [3.14] Two kinds at once."""

import itertools

from checks import Checks
from sample_kinds import Noting, snapshot

from kindgrove.both import Both
from kindgrove.errors import BadValue, NotGiven
from kindgrove.kinds import Calls, Kind, Measured
from kindgrove.ranges import Boxes, Ranges
from kindgrove.reach import Reach
from kindgrove.rests import Rests, Signs, Stems
from kindgrove.trees import Tree

ARGUMENTS = {"own": 1, "join": 2, "consistent": 2, "matches": 2, "penalty": 2, "distance": 2, "bound": 2}


def noted(name, asked, results):
    """A kind whose functions note what they are asked, in a list of tuples (name, method, arguments)."""
    def function(method):
        def call(*told):
            asked.append((name, method, told))
            return results[method]

        return call

    return Calls(sides=function("sides"), **{method: function(method) for method in ARGUMENTS})


class Unmeasured(Kind):
    """Has both distances, but is no Measured."""

    def distance(self, key, point):
        raise AssertionError()

    def bound(self, label, point):
        raise AssertionError()


class BothTest(Checks):

    def setUp(self):
        self.asked = []
        self.first = {"own": "own 1", "join": "join 1", "consistent": True, "matches": True, "penalty": 3,
                      "distance": 10, "bound": -4, "sides": [1, 0, 1]}
        self.second = {"own": "own 2", "join": (2, "join"), "consistent": True, "matches": True, "penalty": 5,
                       "distance": 20, "bound": 7, "sides": "never"}
        self.one, self.other = noted(1, self.asked, self.first), noted(2, self.asked, self.second)
        self.kind = Both(self.one, self.other)

    def check(self, method, wanted):
        """The method returns what is wanted, and calls that of each part once, the first one first."""
        told = [(f"{at} a", f"{at} b") for at in range(ARGUMENTS[method])]
        self.asked.clear()
        found = getattr(self.kind, method)(*told)
        self.assertEqual((type(found), found), (type(wanted), wanted))
        self.assertEqual(self.asked, [(1, method, tuple(part for part, _ in told)),
                                      (2, method, tuple(part for _, part in told))])

    def test_parts(self):
        self.assertIs(self.kind.one, self.one)
        self.assertIs(self.kind.other, self.other)
        self.assertIs(Both(other=self.other, one=self.one).other, self.other)
        for name in ("one", "other"):
            with self.assertRaises(AttributeError):
                setattr(self.kind, name, self.one)
        self.assertTrue(isinstance(self.kind, Kind) and isinstance(self.kind, Measured))
        self.assertTrue(isinstance(Both(Rests(), Rests()), Measured))
        self.assertEqual(self.asked, [])

    def test_each_method_asks_each_part_once_the_first_one_first(self):
        self.check("own", ("own 1", "own 2"))
        self.check("join", ("join 1", (2, "join")))
        self.check("penalty", 8)
        self.check("distance", 30)
        self.check("bound", 3)
        self.check("consistent", True)
        self.check("matches", True)

    def test_arguments_by_name(self):
        self.kind.own(key=(1, 2))
        self.kind.join(other=(3, 4), one=(1, 2))
        self.kind.consistent(question=(3, 4), label=(1, 2))
        self.kind.matches(question=(3, 4), key=(1, 2))
        self.kind.penalty(key=(3, 4), label=(1, 2))
        self.kind.distance(point=(3, 4), key=(1, 2))
        self.kind.bound(point=(3, 4), label=(1, 2))
        self.assertEqual([told for part, _, told in self.asked if part == 1], [(1,)] + [(1, 3)] * 6)
        self.assertEqual([told for part, _, told in self.asked if part == 2], [(2,)] + [(2, 4)] * 6)

    def test_the_second_part_is_not_asked_behind_a_false(self):
        for method in ("consistent", "matches"):
            for first, second in itertools.product((True, False), repeat=2):
                self.first[method], self.second[method] = first, second
                self.asked.clear()
                self.assertIs(getattr(self.kind, method)((1, 2), (3, 4)), first and second)
                self.assertEqual([part for part, _, _ in self.asked], [1, 2] if first else [1])

    def test_sides_of_the_first_parts(self):
        labels = [(5, "a"), (6, "b"), (7, "c")]
        self.assertEqual(self.kind.sides(labels), [1, 0, 1])
        self.assertEqual(self.kind.sides(labels=tuple(labels)), [1, 0, 1])
        self.assertEqual(self.asked, [(1, "sides", ([5, 6, 7],))] * 2)
        self.assertEqual(labels, [(5, "a"), (6, "b"), (7, "c")])
        self.assertEqual(Both(Ranges(), Stems()).sides([]), [])
        self.assertEqual(Both(Ranges(), Stems()).sides([((5, 5), "b"), ((1, 2), "c"), ((4, 9), "a")]), [1, 0, 1])
        self.assertEqual(Both(Stems(), Ranges()).sides([("b", (5, 5)), ("c", (1, 2)), ("a", (4, 9))]), [1, 1, 0])

    def test_parts_that_are_not_measured(self):
        measured, told = self.one, ((1, 2), (3, 4))
        for part in (Rests(), Kind(), Unmeasured(), Signs()):
            for name in ("distance", "bound"):
                self.asked.clear()
                self.fails(NotGiven, lambda: getattr(Both(part, measured), name)(*told), name=name)
                self.assertEqual(self.asked, [])
                self.fails(NotGiven, lambda: getattr(Both(measured, part), name)(*told), name=name)
                self.assertEqual(self.asked, [(1, name, (1, 3))])
                self.fails(NotGiven, lambda: getattr(Both(part, part), name)(*told), name=name)

    def test_measured_parts_that_give_no_distances(self):
        ranges, told = Ranges(), ((1, 2), (3, 4))
        part = Calls(own=ranges.own, join=ranges.join, consistent=ranges.consistent, matches=ranges.matches)
        for name in ("distance", "bound"):
            self.fails(NotGiven, lambda: getattr(Both(part, self.one), name)(*told), name=name)
            self.assertEqual(self.asked, [])
            self.fails(NotGiven, lambda: getattr(Both(Both(self.one, Rests()), self.one), name)(
                ((1, 2), 3), ((4, 5), 6)), name=name)
            self.assertEqual([called for called, _, _ in self.asked], [1])
            self.asked.clear()

    def test_ready_parts(self):
        kind = Both(Ranges(), Boxes(1))
        key, label = (3, ((4, 9),)), ((1, 2), ((5, 7),))
        self.assertEqual(kind.own(key), ((3, 3), ((4, 9),)))
        self.assertEqual(kind.join(label, kind.own(key)), ((1, 3), ((4, 9),)))
        self.assertEqual([kind.penalty(label, key), kind.distance(key, (0, (1,))), kind.bound(label, (9, (9,)))],
                         [4, 6, 9])
        self.assertEqual([kind.consistent(label, ((2, 4), ((7, 8),))), kind.consistent(label, ((2, 4), ((8, 8),))),
                          kind.consistent(label, ((3, 4), ((7, 8),)))], [True, False, False])
        self.assertEqual([kind.matches(key, ((3, 3), ((9, 9),))), kind.matches(key, ((3, 3), ((10, 11),)))],
                         [True, False])

    def test_labels_of_parts_must_be_plain_values(self):
        for wrong in ([1], True, 1.5, (1, [2])):
            bad = Calls(own=lambda key: wrong, join=lambda one, other: wrong, consistent=None, matches=None)
            for kind in (Both(bad, Ranges()), Both(Ranges(), bad)):
                self.fails(BadValue, lambda: kind.own((1, 2)), value=wrong)
                self.fails(BadValue, lambda: kind.join(((1, 1), (1, 1)), ((2, 2), (2, 2))), value=wrong)
                self.fails(BadValue, lambda: Tree(kind).put((1, 2)), value=wrong)

    def test_labels_can_be_too_deep_together(self):
        deep = ((((1,),),),)
        kind = Both(Calls(own=lambda key: deep, join=None, consistent=None, matches=None), Rests())
        self.assertEqual(kind.own((1, 2)), (deep, (0, 2)))
        self.fails(BadValue, lambda: Reach(kind, [(1, 2)]), value=(deep, (0, 2)))


class TreeTest(Checks):

    def test_a_both_of_exact_kinds_finds_everything(self):
        kind = Both(Ranges(), Stems())
        keys = [(number, word) for number in (1, 4, 6, 9, -3) for word in ("a", "ab", "b", "", "abc")]
        questions = [((low, high), word) for low, high in ((0, 5), (6, 6), (-9, 9), (5, 1)) for word in ("", "a", "ab")]
        tree = Tree(kind, most=3)
        for key in keys[::2] + keys[1::2]:
            tree.put(key)
        for question in questions:
            self.assertEqual(tree.lost(question), [])
            wanted = [at for at in tree.numbers() if kind.matches(tree.key_of(at), question)]
            self.assertEqual(sorted(tree.search(question)), wanted)
            self.assertIs(tree.is_account(question, tree.account(question)), True)
        before = snapshot(tree)
        self.assertEqual((tree.tighten(), snapshot(tree)), (0, before))

    def test_exact_for_all_pairs(self):
        """[3.14] for Rests and Signs, by the reached pairs."""
        kind = Both(Rests(), Signs(3))
        keys = [(number, key) for number in (0, 3, 8) for key in ((1,), (2, 4))]
        questions = [((m, r), q) for m, r in ((2, 0), (5, 3), (4, 3)) for q in ((), (1,), (4,), (5, 2))]
        for label, key in Reach(kind, keys).pairs():
            for question in questions:
                if kind.matches(key, question):
                    self.assertIs(kind.consistent(label, question), True)

    def test_noted_calls_of_a_tree(self):
        one, other = Noting(Ranges()), Noting(Stems())
        Tree.packed(Both(one, other), [[(1, "a"), (2, "b")], [(3, "c")]])
        self.assertEqual(one.calls, [("own", (1,)), ("own", (2,)), ("own", (3,)), ("join", ((1, 1), (2, 2)))])
        self.assertEqual(other.calls, [("own", ("a",)), ("own", ("b",)), ("own", ("c",)), ("join", ("a", "b"))])
