"""Arguments by position and by name, the names in any order, for each function and method of the interface."""

import unittest

from kindgrove.both import Both, Coarse
from kindgrove.compared import classes, is_parting, merged, opens_more, parted, parting
from kindgrove.counted import Counted
from kindgrove.errors import NotGiven
from kindgrove.grids import Grid
from kindgrove.kinds import Calls, Kind, Measured
from kindgrove.nearest import bound_miss, is_bound_miss, nearest, nodes_for, tightest, within
from kindgrove.ranges import Boxes, Ranges
from kindgrove.reach import Reach
from kindgrove.recipes import key_at, rows, shape_of, shortest, shortest_with, value
from kindgrove.rests import Rests, Signs, Stems
from kindgrove.trees import Tree
from kindgrove.values import is_plain
from kindgrove.verdicts import is_exact, is_miss, is_table, lowest, mended, miss, sharpest
from kindgrove.weavings import first_miss, is_miss_weaving, play, weavings
from kindgrove.yards import Yard

RECIPE = (("own", 1), ("own", 5), ("join", 0, 1))
WORKS = [("search", (0, 9)), ("put", 4)]
SHAPE = [[3, 8], [20, 21, 25]]


def tree():
    return Tree.packed(Ranges(), SHAPE)


def reach():
    return Reach(Ranges(), [1, 5])


def yard():
    made = Yard(Ranges(), most=2)
    for key in (1, 2, 3):
        made.run(made.put(key))
    return made


def case(**more):
    return {"kind": Ranges(), "keys": [1, 5], "questions": [(4, 6)], **more}


def scene(**more):
    return {"kind": Ranges(), "keys": [1, 2, 3], "works": WORKS, **more}


# Functions, with their arguments in the order of their positions; behind "*" those that have none.
FUNCTIONS = [
    (is_plain, {"thing": (1, ("a",))}),
    (value, {"kind": Ranges(), "recipe": RECIPE}), (rows, {"recipe": RECIPE}),
    (key_at, {"recipe": RECIPE, "way": (1,)}), (shape_of, {"recipe": RECIPE}),
    (shortest, {"reach": reach(), "label": (1, 5)}),
    (shortest_with, {"reach": reach(), "label": (1, 5), "key": 5}),
    (is_exact, case(rule=Grid(True))), (miss, case()), (sharpest, case()), (mended, case()), (lowest, case()),
    (is_miss, case(thing=None)), (is_table, case(thing=reach().pairs())),
    (classes, case()), (parting, case(one=(1, 1), other=(1, 5))),
    (is_parting, case(one=(1, 1), other=(1, 5), thing=([], (4, 6)))),
    (parted, {"one": Ranges(), "other": Ranges(), "keys": [1, 5], "questions": [(4, 6)]}),
    (opens_more, {"one": Ranges(), "other": Ranges(), "keys": [1, 5], "questions": [(4, 6)]}),
    (within, {"tree": tree(), "point": 12, "limit": 9, "*": {"bound": Grid(0)}}),
    (nearest, {"tree": tree(), "point": 12, "many": 2, "*": {"bound": Ranges().bound}}),
    (nodes_for, {"tree": tree(), "point": 12, "many": 2, "*": {"bound": Ranges().bound}}),
    (bound_miss, {"kind": Ranges(), "keys": [1, 5], "points": [3]}),
    (is_bound_miss, {"kind": Ranges(), "keys": [1, 5], "points": [3], "thing": (RECIPE, (0,), 3)}),
    (tightest, {"kind": Ranges(), "keys": [1, 5], "points": [3]}),
    (play, scene(order=(0, 1, 1, 0), **{"*": {"most": 2, "linked": False}})),
    (weavings, scene(**{"*": {"most": 2, "linked": False, "limit": 500}})),
    (first_miss, scene(**{"*": {"most": 2, "linked": False, "limit": 500}})),
    (is_miss_weaving, scene(thing=(0, 1, 1, 0, 0), **{"*": {"most": 2, "linked": False}})),
    (Boxes.around, {"points": [(1, 2), (3, 0)]}),
]

OF_KIND = ["own", "join", "consistent", "matches", "penalty", "sides"]
OF_MEASURED = ["distance", "bound"]
# Kinds with a key, two labels, a question and a point.
KINDS = [
    (Ranges(), 4, (3, 9), (5, 12), (0, 4), 7), (Boxes(1), ((1, 2),), ((3, 9),), ((5, 12),), ((0, 4),), (7,)),
    (Rests(), 7, (12, 7), (0, 19), (8, 3), None), (Stems(), "ab", "a", "abc", "ab", None),
    (Signs(4), (1, 2), 5, 8, (9,), None), (Both(Ranges(), Ranges()), (4, 5), ((3, 9), (1, 1)), ((0, 0), (2, 5)),
                                           ((0, 4), (5, 6)), (7, 1)),
    (Coarse(Ranges(), lambda label: label), 4, (3, 9), (5, 12), (0, 4), 7),
    (Calls(own=Ranges().own, join=Ranges().join, consistent=Ranges().consistent, matches=Ranges().matches,
           penalty=Ranges().penalty, sides=Ranges().sides, distance=Ranges().distance, bound=Ranges().bound),
     4, (3, 9), (5, 12), (0, 4), 7),
    (merged(Ranges(), [4, 5], [(0, 4)]), 4, 0, 1, (0, 4), None),
]


class ByNameTest(unittest.TestCase):

    def check(self, call, told):
        """The call returns the same, however its arguments are passed."""
        told = dict(told)
        named = told.pop("*", {})
        wanted = call(*told.values(), **named)
        pairs = list(told.items())
        for split in range(len(pairs) + 1):
            rest = dict([*pairs[split:], *named.items()])
            for names in (list(rest), list(rest)[::-1], sorted(rest)):
                found = call(*[thing for _, thing in pairs[:split]], **{name: rest[name] for name in names})
                self.assertEqual(found, wanted)

    def test_functions(self):
        for call, told in FUNCTIONS:
            with self.subTest(call.__name__):
                self.check(call, told)

    def test_merged(self):
        for told in (case(), dict(reversed(case().items()))):
            self.assertEqual(Reach(merged(**told), [1, 5]).pairs(), Reach(merged(*case().values()), [1, 5]).pairs())

    def test_kinds(self):
        for kind, key, one, other, question, point in KINDS:
            told = {"own": {"key": key}, "join": {"one": one, "other": other},
                    "consistent": {"label": one, "question": question}, "matches": {"key": key, "question": question},
                    "penalty": {"label": one, "key": key}, "sides": {"labels": [one, other, one]},
                    "distance": {"key": key, "point": point}, "bound": {"label": one, "point": point}}
            for name in OF_KIND + (OF_MEASURED if point else []):
                with self.subTest(kind=kind, name=name):
                    self.check(getattr(kind, name), told[name])

    def test_base_classes(self):
        told = {"key": 1, "one": 1, "other": 2, "label": 3, "question": 4, "point": 5}
        for name, names in (("own", ["key"]), ("join", ["other", "one"]), ("consistent", ["question", "label"]),
                            ("matches", ["question", "key"]), ("distance", ["point", "key"]),
                            ("bound", ["point", "label"])):
            holder = Measured() if name in OF_MEASURED else Kind()
            with self.assertRaises(NotGiven) as caught:
                getattr(holder, name)(**{name: told[name] for name in names})
            self.assertEqual(caught.exception.name, name)
        self.assertEqual((Kind().penalty(key=1, label=2), Kind().sides(labels=[1, 2, 3])), (0, [0, 1, 1]))

    def test_trees(self):
        self.check(lambda **told: Tree.packed(**told).view(), {"*": {"most": 4, "shape": SHAPE, "kind": Ranges()}})
        self.check(lambda shape, kind: Tree.packed(kind, shape, most=9).view(), {"shape": SHAPE, "kind": Ranges()})
        self.check(lambda **told: Tree(**told).view(), {"*": {"most": 4, "kind": Ranges()}})
        rule = Grid(True)
        for name, told in (("put", {"key": 3}), ("drop", {"number": 3}), ("key_of", {"number": 3}),
                           ("opened", {"question": (0, 9), "rule": rule}), ("lost", {"question": (0, 9), "rule": rule}),
                           ("account", {"question": (0, 9)}), ("is_account", {"question": (0, 9), "thing": None})):
            with self.subTest(name):
                self.check(lambda *plain, told=name, **named: getattr(tree(), told)(*plain, **named), told)
        self.check(lambda *plain, **named: list(tree().search(*plain, **named)), {"question": (0, 9), "rule": rule})

    def test_reaches_grids_and_counted_functions(self):
        self.check(lambda *plain, **named: Reach(*plain, **named).pairs(),
                   {"kind": Ranges(), "keys": [1, 5], "*": {"most": 9}})
        self.check(lambda *plain, **named: reach().add(*plain, **named), {"key": 3})
        self.check(lambda *plain, **named: reach().least(*plain, **named), {"label": (1, 5)})
        self.check(lambda *plain, **named: reach().least_with(*plain, **named), {"label": (1, 5), "key": 5})
        self.check(Grid, {"default": None})
        self.check(Grid(7), {"one": 1, "other": 2})
        self.check(lambda *plain, **named: Grid().under(*plain, **named), {"other": Grid()})
        self.check(lambda *plain, **named: Counted(*plain, **named)(-3), {"function": abs, "arguments": 1})

    def test_kinds_are_made(self):
        self.check(lambda *plain, **named: Boxes(*plain, **named).dimensions, {"dimensions": 3})
        self.check(lambda *plain, **named: Signs(*plain, **named).width, {"width": 3})
        self.check(lambda *plain, **named: Both(*plain, **named).own((1, "a")), {"one": Ranges(), "other": Stems()})
        self.check(lambda *plain, **named: Coarse(*plain, **named).own(1), {"kind": Ranges(), "squeeze": str})

    def test_yards(self):
        self.check(lambda *plain, **named: Yard(*plain, **named).widest, {"kind": Ranges(), "*": {"linked": False,
                                                                                                  "most": 7}})
        self.check(lambda *plain, **named: yard().put(*plain, **named).row_key, {"key": 8})
        self.check(lambda *plain, **named: yard().seek(*plain, **named).question, {"question": (1, 2)})
        self.check(lambda *plain, **named: yard().find(*plain, **named), {"question": (1, 2)})
        self.check(lambda *plain, **named: yard().key_of(*plain, **named), {"number": 2})
        held = yard()
        self.assertEqual([held.run(held.put(7)), held.run(work=held.put(7))], [3, 5])


if __name__ == "__main__":
    unittest.main()
