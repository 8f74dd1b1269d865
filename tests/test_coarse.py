"""[3.13], [3.14] Kinds whose labels are squeezed."""

from checks import Checks
from sample_kinds import snapshot
from test_both import ARGUMENTS, Unmeasured, noted

from kindgrove.both import Both, Coarse
from kindgrove.counted import Counted
from kindgrove.errors import BadValue, NotGiven
from kindgrove.kinds import Calls, Kind, Measured
from kindgrove.ranges import Boxes, Ranges
from kindgrove.reach import Reach
from kindgrove.rests import Rests, Signs, Stems
from kindgrove.trees import Tree


def by_tens(label):
    """The least range of whole tens that holds a range."""
    low, high = label
    return (low // 10 * 10, -(-high // 10) * 10)


class CoarseTest(Checks):

    def setUp(self):
        self.asked = []
        self.results = {"own": "own", "join": "join", "consistent": False, "matches": True, "penalty": 3,
                        "distance": 10, "bound": -4, "sides": [1, 0]}
        self.inner = noted("kind", self.asked, self.results)
        self.kind = Coarse(self.inner, self.squeeze)

    def squeeze(self, label):
        self.asked.append(("squeeze", label))
        return f"squeezed {label}"

    def test_it_is_a_measured_kind(self):
        for kind in (self.kind, Coarse(Rests(), abs), Coarse(squeeze=abs, kind=Kind())):
            self.assertTrue(isinstance(kind, Kind) and isinstance(kind, Measured))
        self.assertEqual(self.asked, [])

    def test_own_and_join_are_squeezed(self):
        self.assertEqual(self.kind.own(7), "squeezed own")
        self.assertEqual(self.asked, [("kind", "own", (7,)), ("squeeze", "own")])
        self.asked.clear()
        self.assertEqual(self.kind.join("x", "y"), "squeezed join")
        self.assertEqual(self.asked, [("kind", "join", ("x", "y")), ("squeeze", "join")])

    def test_everything_else_is_the_kinds(self):
        for method in ARGUMENTS:
            if method not in ("own", "join"):
                self.asked.clear()
                self.assertIs(getattr(self.kind, method)(1, 2), self.results[method])
                self.assertEqual(self.asked, [("kind", method, (1, 2))])
        self.asked.clear()
        labels = [3, 4]
        self.assertEqual(self.kind.sides(labels), [1, 0])
        self.assertEqual(self.asked, [("kind", "sides", ([3, 4],))])

    def test_arguments_by_name(self):
        self.kind.own(key=1)
        self.kind.join(other=2, one=1)
        self.kind.consistent(question=2, label=1)
        self.kind.matches(question=2, key=1)
        self.kind.penalty(key=2, label=1)
        self.kind.distance(point=2, key=1)
        self.kind.bound(point=2, label=1)
        self.kind.sides(labels=[1])
        told = [note[2] for note in self.asked if note[0] == "kind"]
        self.assertEqual(told, [(1,)] + [(1, 2)] * 6 + [([1],)])

    def test_a_kind_that_is_not_measured(self):
        for inner in (Rests(), Stems(), Signs(), Kind(), Unmeasured()):
            for name in ("distance", "bound"):
                self.fails(NotGiven, lambda: getattr(Coarse(inner, str), name)(1, 2), name=name)

    def test_a_measured_kind_that_gives_no_distances(self):
        for inner in (Coarse(Rests(), str), Calls(own=abs, join=abs, consistent=abs, matches=abs), Measured()):
            for name in ("distance", "bound"):
                self.fails(NotGiven, lambda: getattr(Coarse(inner, str), name)(1, 2), name=name)

    def test_what_is_not_given_comes_through(self):
        kind = Coarse(Kind(), self.squeeze)
        for name in ("own", "join", "consistent", "matches"):
            self.fails(NotGiven, lambda: getattr(kind, name)(*range(ARGUMENTS[name])), name=name)
        self.assertEqual([kind.penalty(1, 2), kind.sides([1, 2, 3]), self.asked], [0, [0, 1, 1], []])

    def test_ready_kinds(self):
        kind = Coarse(Ranges(), by_tens)
        self.assertEqual([kind.own(7), kind.own(-3), kind.own(20)], [(0, 10), (-10, 0), (20, 20)])
        self.assertEqual([kind.join((0, 10), (20, 20)), kind.join((1, 2), (3, 4))], [(0, 20), (0, 10)])
        # The penalty is that of Ranges, whose own labels are not squeezed.
        self.assertEqual([kind.penalty((0, 10), 13), kind.distance(7, 3), kind.bound((0, 10), 13)], [3, 4, 3])
        self.assertEqual([kind.consistent((0, 10), (9, 9)), kind.matches(7, (9, 9))], [True, False])
        self.assertEqual(kind.sides([(5, 5), (1, 2), (4, 9)]), [1, 0, 1])

    def test_squeeze_can_be_any_callable_object(self):
        counted = Counted(by_tens, 1)
        self.assertEqual([Coarse(Ranges(), counted).own(7), counted.calls], [(0, 10), 1])

    def test_labels_of_the_kind_must_be_plain_values(self):
        for wrong in ([1], True, 1.5, (1, [2])):
            bad = Calls(own=lambda key: wrong, join=lambda one, other: wrong, consistent=None, matches=None)
            self.fails(BadValue, lambda: Coarse(bad, self.squeeze).own(1), value=wrong)
            self.fails(BadValue, lambda: Coarse(bad, self.squeeze).join(1, 2), value=wrong)
            self.assertEqual(self.asked, [])

    def test_squeezed_labels_must_be_plain_values(self):
        wrong = [0, 10]
        self.fails(BadValue, lambda: Tree(Coarse(Ranges(), lambda label: wrong)).put(1), value=wrong)
        self.fails(BadValue, lambda: Reach(Coarse(Ranges(), lambda label: wrong), [1]), value=wrong)


class TreeTest(Checks):

    def check(self, kind, keys, questions):
        """[3.14]: an exact kind stays exact if each label holds at least what it held."""
        tree = Tree(kind, most=2)
        for key in keys:
            tree.put(key)
        for question in questions:
            self.assertEqual(tree.lost(question), [])
        for label, key in Reach(kind, keys[:6]).pairs():
            for question in questions:
                if kind.matches(key, question):
                    self.assertIs(kind.consistent(label, question), True)
        before = snapshot(tree)
        tree.tighten()
        self.assertEqual(snapshot(tree)[1:], before[1:])
        for question in questions:
            self.assertEqual(tree.lost(question), [])

    def test_ranges(self):
        questions = [(low, low + more) for low in range(-30, 60, 7) for more in (0, 5, -1)]
        self.check(Coarse(Ranges(), by_tens), [5, 17, -20, 3, 44, 10, 11, 9, 0, -1], questions)

    def test_boxes(self):
        keys = [((at % 7, at % 7 + 2), (-at, at)) for at in range(9)]
        questions = [((low, low + 1), (low - 3, low + 2)) for low in range(-9, 12)]
        self.check(Coarse(Boxes(), lambda box: tuple(by_tens(span) for span in box)), keys, questions)

    def test_signs(self):
        keys = [(at, at * 3) for at in range(9)]
        questions = [(), (1,), (3, 9), (4, 12), (5,), (60,)]
        self.check(Coarse(Signs(4), lambda label: label | 5), keys, questions)
        self.check(Coarse(Signs(4), lambda label: -1), keys, questions)

    def test_a_coarse_kind_need_not_be_exact(self):
        tree = Tree.packed(Coarse(Stems(), lambda label: "z" + label), [["ab"], ["ac"]])
        self.assertEqual(tree.view(), ("node", (("zab", ("leaf", (0,))), ("zac", ("leaf", (1,))))))
        self.assertEqual([list(tree.search("a")), tree.lost("a")], [[], [0, 1]])

    def test_coarse_parts_of_a_both(self):
        kind = Both(Coarse(Ranges(), by_tens), Coarse(Stems(), lambda label: label[:1]))
        tree = Tree.packed(kind, [[(7, "abc"), (13, "abd")], [(40, "x")]])
        self.assertEqual([label for label, _ in tree.view()[1]], [((0, 20), "a"), ((40, 40), "x")])
        self.assertEqual(list(tree.search(((0, 99), "abd"))), [1])
