"""[9.4] Two kinds compared by the nodes that they open."""

import random

from checks import Checks
from model_reach import terms
from model_verdicts import judged_kind, plain_value
from test_merged import random_shape
from test_verdicts import exact_cases

from kindgrove.compared import opens_more, parted
from kindgrove.errors import TooMany
from kindgrove.grids import Grid
from kindgrove.kinds import Calls, Kind
from kindgrove.ranges import Ranges
from kindgrove.recipes import rows, shape_of, value
from kindgrove.rests import Stems
from kindgrove.trees import Tree
from kindgrove.verdicts import mended


def two_kinds(seed):
    """Two kinds of arbitrary tables with the same keys and questions; some answer alike, some nearly."""
    one, keys, questions = judged_kind(seed, 1 + seed % 6, 1 + seed % 3, 1 + seed % 3)
    if seed % 3 == 0:
        return one, judged_kind(seed + 1000, 1 + seed % 5, len(keys), len(questions))[0], keys, questions
    chance, rule = random.Random(seed), Grid()
    for place in one.consistent_function.places():
        rule[place] = chance.random() < 0.9
    other = Calls(own=one.own, join=one.join, consistent=rule, matches=one.matches)
    if seed % 3 == 1:
        other = Calls(own=one.own, join=one.join, consistent=mended(one, keys, questions), matches=one.matches)
    return one, other, keys, questions


def product(one, other):
    """A kind whose labels are tuples of both kinds' labels."""
    return Calls(own=lambda key: (one.own(key), other.own(key)), consistent=None, matches=None,
                 join=lambda first, second: (one.join(first[0], second[0]), other.join(first[1], second[1])))


def all_two_kinds():
    for seed in range(80):
        yield two_kinds(seed)


class PartedTest(Checks):

    def check(self, one, other, keys, questions, find, is_apart):
        found = find(one, other, keys, questions)
        by_rows = terms(product(one, other), keys, 6)
        fewest = min((many for many, some in by_rows.items() for (first, second), _ in some for question in questions
                      if is_apart(one.consistent(first, question), other.consistent(second, question))), default=7)
        if found is None:
            self.assertEqual(fewest, 7)
            return 0
        self.assertEqual((type(found), len(found)), (tuple, 2))
        recipe, question = found
        self.assertEqual(min(rows(recipe), 7), fewest)
        self.assertTrue(all(step[1] in keys for step in recipe if step[0] == "own"))
        self.assertIn(question, questions)
        self.assertTrue(is_apart(one.consistent(value(one, recipe), question),
                                 other.consistent(value(other, recipe), question)))
        self.assertEqual(find(keys=tuple(keys), questions=tuple(questions), other=other, one=one), found)
        self.check_trees(one, other, recipe, question, is_apart)
        return rows(recipe)

    def check_trees(self, one, other, recipe, question, is_apart):
        if rows(recipe) <= 60:
            opened = [Tree.packed(kind, shape_of(recipe)).opened(question) for kind in (one, other)]
            self.assertTrue(is_apart((0,) in opened[0], (0,) in opened[1]))
            self.assertEqual(plain_value(one, recipe), value(one, recipe))

    def test_parted(self):
        found = {self.check(*told, parted, lambda first, second: first != second) for told in all_two_kinds()}
        self.assertLessEqual({0, 1, 2}, found)

    def test_opens_more(self):
        def is_more(first, second):
            return first and not second

        found = {self.check(*told, opens_more, is_more) for told in all_two_kinds()}
        self.assertLessEqual({0, 1, 2}, found)

    def test_alike_kinds(self):
        for kind, keys, questions in exact_cases():
            for find in (parted, opens_more):
                self.assertIsNone(find(kind, kind, keys, questions))
        keys, questions = ["ab", "ac", "b"], ["a", "ab", "c"]
        longer = Calls(own=lambda key: key + "!", join=lambda one, other: Stems().join(one[:-1], other[:-1]) + "!",
                       consistent=lambda label, question: Stems().consistent(label[:-1], question), matches=None)
        self.assertIsNone(parted(Stems(), longer, keys, questions))
        self.assertIsNone(opens_more(longer, Stems(), keys, questions))

    def test_one_opens_more(self):
        wide = Calls(own=Ranges().own, join=Ranges().join, matches=None, consistent=lambda label, question:
                     Ranges().consistent((label[0] - 2, label[1] + 2), question))
        keys, questions = [1, 9], [(3, 3), (20, 20)]
        self.assertIsNone(opens_more(Ranges(), wide, keys, questions))
        recipe, question = opens_more(wide, Ranges(), keys, questions)
        self.assertEqual((recipe, question), ((("own", 1),), (3, 3)))
        self.assertEqual(parted(wide, Ranges(), keys, questions), (recipe, question))
        self.assertEqual(parted(Ranges(), wide, keys, questions), (recipe, question))

    def test_opens_more_both_ways(self):
        one, other, keys, questions = two_kinds(3)
        self.assertEqual(parted(one, other, keys, questions) is None,
                         opens_more(one, other, keys, questions) is None
                         and opens_more(other, one, keys, questions) is None)

    def test_trees_of_one_shape(self):
        chance = random.Random(12)
        for one, other, keys, questions in all_two_kinds():
            is_none = [opens_more(one, other, keys, questions) is None, opens_more(other, one, keys, questions) is None]
            self.assertEqual(parted(one, other, keys, questions) is None, all(is_none))
            for _ in range(4):
                shape = random_shape(chance, keys, chance.randrange(1, 4))
                first, second = Tree.packed(one, shape), Tree.packed(other, shape)
                for question in questions:
                    some, more = set(first.opened(question)), set(second.opened(question))
                    self.assertTrue(some <= more if is_none[0] else True)
                    self.assertTrue(more <= some if is_none[1] else True)

    def test_many_rows(self):
        def doubled(bad):
            return Calls(own=lambda key: 0, join=lambda one, other: min(one + 1, 150) if one == other else 0,
                         consistent=lambda label, question: label != bad, matches=Grid())

        recipe, question = parted(doubled(150), doubled(150 - 1), ["a"], ["q"])
        self.assertEqual((rows(recipe), question), (2 ** 149, "q"))
        recipe, question = opens_more(doubled(149), doubled(150), ["a"], ["q"])
        self.assertEqual((rows(recipe), value(doubled(0), recipe)), (2 ** 150, 150))

    def test_nothing_given(self):
        for find in (parted, opens_more):
            self.assertIsNone(find(Kind(), Kind(), [], []))
            self.assertIsNone(find(Ranges(), Stems(), [], [1]))
            self.assertIsNone(find(Calls(own=str, join=Grid("z"), consistent=None, matches=None), Ranges(), [1], []))

    def test_deep_labels(self):
        """Labels of four levels stand in tuples of two without being too deep."""
        deep = Calls(own=lambda key: (((key,),),), join=lambda one, other: ((((),),),), consistent=Grid(), matches=None)
        other = Calls(own=lambda key: key, join=lambda one, other: "z", consistent=Grid(True), matches=None)
        key = ((((1,),),),)
        self.assertEqual(parted(other, other, [key], ["q"]), None)
        self.assertEqual(parted(other, deep, [1], ["q"]), ((("own", 1),), "q"))


class TooManyTest(Checks):

    def walker(self, many):
        """All joins count on: a term's label is told by its number of leaves."""
        return Calls(own=lambda key: 1, join=lambda one, other: (one + other) % many, consistent=Grid(True),
                     matches=Grid())

    def test_two_hundred_tuples(self):
        for one, other, many in ((10, 20, 20), (8, 25, 200), (10, 19, 190), (199, 1, 199), (200, 200, 200)):
            for find in (parted, opens_more):
                self.assertIsNone(find(self.walker(one), self.walker(other), ["a"], ["q"]), many)

    def test_more_tuples(self):
        for one, other in ((3, 67), (11, 19), (199, 2), (2, 101), (200, 3)):
            for find in (parted, opens_more):
                self.fails(TooMany, lambda: find(self.walker(one), self.walker(other), ["a"], ["q"]))
                self.fails(TooMany, lambda: find(self.walker(other), self.walker(one), ["a"], []))
