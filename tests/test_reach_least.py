"""[4.3] The smallest numbers of leaves."""

from checks import Checks
from model_reach import plain_least, table_calls, table_kind, terms
from test_reach import ready_cases

from kindgrove.kinds import Calls
from kindgrove.ranges import Ranges
from kindgrove.reach import Reach


def doubled(highest):
    """The kind of [4.3], whose label n needs 2 ** n leaves, up to a highest label."""
    return Calls(own=lambda key: 0, join=lambda one, other: one + 1 if one == other < highest else 0, consistent=None,
                 matches=None)


class LeastTest(Checks):

    def check(self, kind, keys):
        reach = Reach(kind, keys)
        least, least_with = plain_least(kind, keys)
        self.assertEqual({label: reach.least(label) for label in reach.labels()}, least)
        self.assertEqual({pair: reach.least_with(*pair) for pair in reach.pairs()}, least_with)
        return reach

    def test_example(self):
        reach = Reach(Ranges(), [1, 5])
        self.assertEqual([reach.least((1, 5)), reach.least_with((5, 5), 5)], [2, 1])
        self.assertEqual([reach.least(label=(5, 5)), reach.least_with(key=1, label=(1, 5))], [1, 2])

    def test_ranges_by_hand(self):
        reach = self.check(Ranges(), [1, 5, 9])
        self.assertEqual([reach.least_with((1, 9), key) for key in (1, 5, 9)], [2, 3, 2])

    def test_ready_kinds(self):
        for kind, keys in ready_cases():
            self.check(kind, keys)

    def test_arbitrary_joins(self):
        for seed in range(60):
            self.check(*table_kind(seed, 1 + seed % 11, 1 + seed % 4))

    def test_against_all_terms(self):
        for seed in range(24):
            kind, keys = table_kind(seed, 2 + seed % 5, 1 + seed % 3)
            reach = Reach(kind, keys)
            found = terms(kind, keys, 8)
            for label in reach.labels():
                wanted = [many for many in found if any(value == label for value, _ in found[many])]
                self.assertEqual(min(wanted, default=9), min(reach.least(label), 9))
            for label, key in reach.pairs():
                wanted = [many for many in found if any(value == label and key in some for value, some in found[many])]
                self.assertEqual(min(wanted, default=9), min(reach.least_with(label, key), 9))

    def test_key_by_key(self):
        for seed in range(12):
            kind, keys = table_kind(seed, 8, 5)
            reach = Reach(kind)
            for many, key in enumerate(keys):
                reach.add(key)
                least, least_with = plain_least(kind, keys[:many + 1])
                self.assertEqual({label: reach.least(label) for label in least}, least)
                self.assertEqual({pair: reach.least_with(*pair) for pair in least_with}, least_with)

    def test_a_new_key_lessens_what_is_reached_already(self):
        own = {"a": 0, "b": 2}
        joins = {(one, other): min(one + other + 1, 3) for one in range(4) for other in range(4)}
        reach = Reach(table_calls(own, joins), ["a"])
        self.assertEqual([reach.least(label) for label in range(4)], [1, 2, 3, 4])
        reach.add("b")
        self.assertEqual([reach.least(label) for label in range(4)], [1, 2, 1, 2])
        self.assertEqual([reach.least_with(2, "a"), reach.least_with(2, "b"), reach.least_with(3, "a")], [3, 1, 2])

    def test_a_key_that_only_long_terms_have(self):
        # "b" vanishes in each join but that with 5, which is reached by six leaves.
        def join(one, other):
            if "b" in (one, other):
                return "found" if (one, other) == ("b", 5) else 0
            return 0 if "found" in (one, other) else min(one + 1, 5) if other == 0 else 0

        kind = Calls(own=lambda key: "b" if key == "b" else 0, join=join, consistent=None, matches=None)
        reach = self.check(kind, ["a", "b"])
        self.assertEqual([reach.least(5), reach.least("found"), reach.least_with("found", "a")], [6, 7, 7])
        self.assertEqual([reach.least_with("b", "b"), reach.least_with(5, "b")], [1, 7])

    def test_powers_of_two(self):
        for highest in (0, 1, 5, 40):
            reach = Reach(doubled(highest), ["key"])
            self.assertEqual([reach.least(label) for label in range(highest + 1)],
                             [2 ** label for label in range(highest + 1)])
            self.assertEqual(reach.least_with(highest, "key"), 2 ** highest)

    def test_powers_of_two_of_several_keys(self):
        reach = Reach(doubled(199), ["a", "b", "c"])
        self.assertEqual((reach.least(199), reach.least(40)), (2 ** 199, 2 ** 40))
        for key in "abc":
            self.assertEqual([reach.least_with(label, key) for label in (0, 1, 2, 60, 199)],
                             [1, 2, 4, 2 ** 60, 2 ** 199])

    def test_huge_sums(self):
        """The label n needs as many leaves as the sum of the numbers of the two labels ahead of it."""
        def join(one, other):
            return one + 1 if one == other + 1 and one < 150 else 1 if one == other == 0 else 0

        reach = Reach(Calls(own=lambda key: 0, join=join, consistent=None, matches=None), [0])
        numbers = [1, 2]
        while len(numbers) < 151:
            numbers.append(numbers[-1] + numbers[-2])
        self.assertEqual([reach.least(label) for label in range(151)], numbers)

    def test_numbers_are_integers(self):
        reach = Reach(Ranges(), [1, 5])
        for label, key in reach.pairs():
            self.assertIs(type(reach.least(label)), int)
            self.assertIs(type(reach.least_with(label, key)), int)
            self.assertGreaterEqual(reach.least_with(label, key), reach.least(label))
