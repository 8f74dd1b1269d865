"""[5.3] Recipes with as few rows as possible."""

from checks import Checks
from model_reach import table_kind, terms
from model_verdicts import leaves_of
from sample_kinds import odd_things
from test_reach import ready_cases
from test_reach_least import doubled

from kindgrove.errors import NoLabel, NoPair
from kindgrove.kinds import Calls
from kindgrove.ranges import Ranges
from kindgrove.reach import Reach
from kindgrove.recipes import key_at, rows, shortest, shortest_with, value


def two_chains(many):
    """Labels 0 to many - 1, of which n needs 2 ** n leaves "a", and "b" alone turns each of them into a further one."""
    def join(one, other):
        if isinstance(one, int) and one == other:
            return min(one + 1, many - 1)
        if isinstance(one, tuple) and isinstance(other, int) and other == one[0] + 1:
            return (other,)
        return 0

    return Calls(own=lambda key: 0 if key == "a" else (0,), join=join, consistent=None, matches=None)


class ShortestTest(Checks):

    def check(self, kind, keys):
        reach = Reach(kind, keys)
        for label in reach.labels():
            recipe = shortest(reach, label)
            self.check_recipe(kind, keys, recipe, label)
            self.assertEqual(rows(recipe), reach.least(label))
        for label, key in reach.pairs():
            found = shortest_with(reach, label, key)
            self.assertEqual((type(found), len(found)), (tuple, 2))
            recipe, way = found
            self.check_recipe(kind, keys, recipe, label)
            self.assertEqual((key_at(recipe, way), rows(recipe)), (key, reach.least_with(label, key)))
            self.assertEqual(shortest_with(reach, label, key), found)

    def check_recipe(self, kind, keys, recipe, label):
        self.assertLessEqual(len(recipe), 400)
        self.assertEqual(value(kind, recipe), label)
        self.assertTrue(all(step[1] in keys for step in recipe if step[0] == "own"))

    def test_ready_kinds(self):
        for kind, keys in ready_cases():
            self.check(kind, keys)

    def test_arbitrary_joins(self):
        for seed in range(60):
            self.check(*table_kind(seed, 1 + seed % 11, 1 + seed % 4))

    def test_against_all_terms(self):
        for seed in range(16):
            kind, keys = table_kind(seed, 2 + seed % 5, 1 + seed % 3)
            reach = Reach(kind, keys)
            found = terms(kind, keys, 7)
            for label, key in reach.pairs():
                recipe, way = shortest_with(reach, label, key)
                fewer = [many for many in found if any(told == label and key in some for told, some in found[many])]
                self.assertEqual(min(rows(recipe), 8), min(fewer, default=8))
                if rows(recipe) < 100:
                    self.assertIn(key, leaves_of(recipe))

    def test_examples(self):
        reach = Reach(Ranges(), [1, 5, 9])
        self.assertEqual(shortest(reach, (5, 5)), (("own", 5),))
        self.assertEqual(shortest_with(reach, (5, 5), 5), ((("own", 5),), ()))
        recipe, way = shortest_with(key=5, label=(1, 9), reach=reach)
        self.assertEqual((rows(recipe), key_at(recipe, way), value(Ranges(), recipe)), (3, 5, (1, 9)))
        self.assertEqual(rows(shortest(label=(1, 9), reach=reach)), 2)

    def test_several_keys_with_one_label(self):
        kind = Calls(own=lambda key: 0, join=lambda one, other: min(one + other + 1, 9), consistent=None, matches=None)
        reach = Reach(kind, ["a", "b", "c"])
        for key in "abc":
            self.assertEqual(shortest_with(reach, 0, key), ((("own", key),), ()))
            recipe, way = shortest_with(reach, 9, key)
            self.assertEqual((rows(recipe), key_at(recipe, way)), (10, key))

    def test_huge_numbers_of_rows(self):
        reach = Reach(doubled(199), ["a", "b"])
        recipe = shortest(reach, 199)
        self.assertEqual((rows(recipe), value(doubled(199), recipe)), (2 ** 199, 199))
        for key in "ab":
            for label in (0, 40, 199):
                recipe, way = shortest_with(reach, label, key)
                self.assertLessEqual(len(recipe), 400)
                self.assertEqual((rows(recipe), value(doubled(199), recipe), key_at(recipe, way)),
                                 (2 ** label, label, key))

    def test_many_steps(self):
        """The key's own chain and the labels that it is joined with have hardly a label in common."""
        for many in (3, 40, 100):
            kind = two_chains(many)
            reach = Reach(kind, ["a", "b"])
            recipe, way = shortest_with(reach, (many - 1,), "b")
            self.assertEqual((value(kind, recipe), key_at(recipe, way)), ((many - 1,), "b"))
            self.assertEqual((rows(recipe), len(recipe)), (2 ** many - 1, 2 * many))
            self.assertEqual(way, (0,) * (many - 1))

    def test_a_later_key_lessens_the_rows(self):
        kind = Calls(own=lambda key: key, join=lambda one, other: min(one + other, 6), consistent=None, matches=None)
        reach = Reach(kind, [1])
        self.assertEqual(rows(shortest(reach, 6)), 6)
        reach.add(3)
        self.assertEqual((rows(shortest(reach, 6)), rows(shortest_with(reach, 6, 1)[0])), (2, 3))

    def test_labels_that_are_not_reached(self):
        reach = Reach(Ranges(), [1, 5])
        for thing in [*odd_things(), (5, 1), (1, 9), (True, 5), [1, 5], 1]:
            self.fails(NoLabel, lambda: shortest(reach, thing), label=thing)
            self.fails(NoPair, lambda: shortest_with(reach, thing, 1), label=thing, key=1)
            self.fails(NoPair, lambda: shortest_with(reach, thing, thing), label=thing, key=thing)

    def test_keys_that_do_not_stand_with_the_label(self):
        reach = Reach(Ranges(), [1, 5])
        for thing in [*odd_things(), 4, True, 1.0, [1]]:
            self.fails(NoPair, lambda: shortest_with(reach, (1, 5), thing), label=(1, 5), key=thing)
        self.fails(NoPair, lambda: shortest_with(reach, (1, 1), 5), label=(1, 1), key=5)
        empty = Reach(Ranges())
        self.fails(NoLabel, lambda: shortest(empty, (1, 1)), label=(1, 1))
        self.fails(NoPair, lambda: shortest_with(empty, (1, 1), 1), label=(1, 1), key=1)

    def test_the_reach_stays_as_it_is(self):
        reach = Reach(Ranges(), [1, 5])
        before = (reach.given(), reach.labels(), reach.pairs())
        shortest(reach, (1, 5))
        shortest_with(reach, (1, 5), 1)
        self.assertEqual((reach.given(), reach.labels(), reach.pairs()), before)
