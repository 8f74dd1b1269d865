"""[4.1], [4.2] What is reached: keys, labels and pairs, errors, and what a reach asks of its kind."""

import random

from checks import Checks
from model_reach import plain_reach, table_kind
from sample_kinds import Noting, Replacing, odd_things

from kindgrove.both import Both, Coarse
from kindgrove.errors import BadCount, BadValue, NoLabel, NoPair, NotGiven, TooMany
from kindgrove.grids import Grid
from kindgrove.kinds import Calls, Kind
from kindgrove.ranges import Boxes, Ranges
from kindgrove.reach import Reach
from kindgrove.rests import Rests, Signs, Stems
from kindgrove.values import is_plain


def in_order(things):
    return sorted(things, key=repr)


def told(reach):
    """All that a reach tells."""
    labels, pairs = reach.labels(), reach.pairs()
    least = [reach.least(label) for label in labels]
    return reach.given(), labels, pairs, least, [reach.least_with(*pair) for pair in pairs]


def counter(own=lambda key: 0):
    """The labels are the numbers from 0 on, all of which are reached."""
    return Calls(own=own, join=lambda one, other: max(one, other) + 1, consistent=None, matches=None)


def ready_cases():
    """Ready kinds, kinds made of them, and keys from which at most 200 labels are reached."""
    yield Ranges(), [5, 1, 9, -3, 5, 40, 10]
    yield Boxes(1), [((3, 5),), ((-1, 0),), ((9, 9),), ((3, 5),)]
    yield Boxes(2), [((0, 1), (5, 6)), ((2, 3), (-4, 4)), ((9, 9), (0, 0))]
    yield Rests(), [7, 19, 12, -5, 100, 7]
    yield Rests(), list(range(0, 60, 4))
    yield Stems(), ["abc", "abd", "b", "", "abcde", "ba"]
    yield Signs(4), [(1, 2), (9,), (), (-1, 30), (2, 1)]
    yield Both(Ranges(), Stems()), [(1, "ab"), (5, "a"), (3, "b"), (1, "abc")]
    yield Coarse(Ranges(), lambda label: (label[0] // 5 * 5, label[1])), [3, 14, 8, -2, 8]


class ReachTest(Checks):

    def check(self, reach, kind, keys):
        labels, pairs = plain_reach(kind, keys)
        self.assertEqual(reach.given(), in_order(set(keys)))
        self.assertEqual(reach.labels(), in_order(labels))
        self.assertEqual(reach.pairs(), in_order(pairs))

    def test_example(self):
        reach = Reach(Ranges(), [1, 5])
        self.assertEqual(reach.pairs(), [((1, 1), 1), ((1, 5), 1), ((1, 5), 5), ((5, 5), 5)])
        self.assertEqual((reach.given(), reach.labels()), ([1, 5], [(1, 1), (1, 5), (5, 5)]))

    def test_nothing_given(self):
        for reach in (Reach(Ranges()), Reach(Ranges(), []), Reach(kind=Kind(), keys=(), most=1)):
            self.assertEqual(told(reach), ([], [], [], [], []))

    def test_ready_kinds_at_once(self):
        for kind, keys in ready_cases():
            self.check(Reach(kind, keys), kind, keys)
            self.check(Reach(keys=tuple(keys), kind=kind, most=200), kind, keys)

    def test_one_by_one_twice_and_the_other_way_about(self):
        for kind, keys in ready_cases():
            at_once, one_by_one, backward = Reach(kind, keys), Reach(kind), Reach(kind, keys[::-1])
            for many, key in enumerate(keys):
                self.assertIsNone(one_by_one.add(key))
                self.check(one_by_one, kind, keys[:many + 1])
                before = told(one_by_one)
                self.assertIsNone(one_by_one.add(key=key))
                self.assertEqual(told(one_by_one), before)
            self.assertEqual(told(one_by_one), told(at_once))
            self.assertEqual(told(backward), told(at_once))
            self.assertEqual(told(Reach(kind, keys + keys)), told(at_once))

    def test_arbitrary_joins(self):
        for seed in range(40):
            kind, keys = table_kind(seed, 1 + seed % 9, 1 + seed % 5)
            reach = Reach(kind)
            for many, key in enumerate(keys):
                reach.add(key)
                self.check(reach, kind, keys[:many + 1])

    def test_joins_both_ways(self):
        first = Calls(own=lambda key: key, join=lambda one, other: one, consistent=None, matches=None)
        self.assertEqual(Reach(first, [1, 2]).pairs(), [(1, 1), (1, 2), (2, 1), (2, 2)])
        minus = {("a", "b"): "ab", ("b", "a"): "ba"}
        kind = Calls(own=lambda key: key, join=lambda one, other: minus.get((one, other), one), consistent=None,
                     matches=None)
        self.assertEqual(Reach(kind, ["a", "b"]).labels(), ["a", "ab", "b", "ba"])

    def test_a_key_with_a_label_that_is_reached_already(self):
        halves = Calls(own=lambda key: key // 2, join=max, consistent=None, matches=None)
        reach = Reach(halves, [4, 2])
        self.assertEqual((reach.labels(), len(reach.pairs())), ([1, 2], 3))
        reach.add(5)
        self.assertEqual((reach.given(), reach.labels()), ([2, 4, 5], [1, 2]))
        self.assertEqual(reach.pairs(), [(1, 2), (2, 2), (2, 4), (2, 5)])
        reach.add(3)
        self.assertEqual(reach.pairs(), [(1, 2), (1, 3), (2, 2), (2, 3), (2, 4), (2, 5)])

    def test_ascending_order_of_repr(self):
        kind = Calls(own=lambda key: key, join=Grid("zz"), consistent=None, matches=None)
        keys = ["b", 10, 9, None, "a", (), -1, (9,), (10,)]
        reach = Reach(kind, keys)
        self.assertEqual(reach.given(), ["a", "b", (), (10,), (9,), -1, 10, 9, None])
        self.assertEqual(reach.labels(), ["a", "b", "zz", (), (10,), (9,), -1, 10, 9, None])
        self.assertEqual(reach.pairs(), in_order([(key, key) for key in keys] + [("zz", key) for key in keys]))

    def test_new_lists_each_time(self):
        keys = [1, 5]
        reach = Reach(Ranges(), keys)
        before = told(reach)
        for method in (reach.given, reach.labels, reach.pairs):
            method().clear()
            method().append(3)
        keys.append(9)
        self.assertEqual(told(reach), before)
        self.assertEqual(keys, [1, 5, 9])

    def test_reaches_go_their_own_way(self):
        kind = Ranges()
        one, other = Reach(kind, [1]), Reach(kind, [1])
        one.add(2)
        self.assertEqual((other.labels(), Reach(kind).labels()), ([(1, 1)], []))

    def test_sixty_keys_and_two_hundred_labels(self):
        kind = Calls(own=lambda key: key, join=lambda one, other: (one * 7 + other * 3 + 1) % 200, consistent=None,
                     matches=None)
        reach = Reach(kind, list(range(60)))
        self.assertEqual((len(reach.given()), len(reach.labels()), len(reach.pairs())), (60, 200, 12000))
        self.assertEqual(len([reach.least_with(*pair) for pair in reach.pairs()]), 12000)
        one_by_one = Reach(kind)
        for key in range(60):
            one_by_one.add(key)
        self.assertEqual(told(one_by_one), told(reach))

    def test_sixty_ready_keys(self):
        stems = ["".join("ab"[at >> bit & 1] for bit in range(6)) for at in range(60)]
        rests = [4 * at for at in range(18)]
        coarse = Coarse(Ranges(), lambda label: (label[0] // 8 * 8, -(-label[1] // 8) * 8))
        for kind, keys in ((Rests(), rests), (Stems(), stems), (Signs(7), [(at,) for at in range(60)]),
                           (coarse, list(range(0, 120, 2)))):
            self.check(Reach(kind, keys), kind, keys)


class MostTest(Checks):

    def test_bad_counts(self):
        for most in [*odd_things(), 0, 201, -1, 10 ** 40, True, False, "5", 5.0, (5,), [5]]:
            self.fails(BadCount, lambda: Reach(Ranges(), most=most), count=most)
            self.fails(BadCount, lambda: Reach(Ranges(), [[1], True], most=most), count=most)

    def test_by_name_only(self):
        with self.assertRaises(TypeError):
            Reach(Ranges(), [], 200)

    def test_from_one_on(self):
        same = Calls(own=lambda key: 0, join=lambda one, other: 0, consistent=None, matches=None)
        self.assertEqual(Reach(same, [1, 2, 3], most=1).pairs(), [(0, 1), (0, 2), (0, 3)])
        for most in range(1, 12):
            for many in range(1, 6):
                keys = list(range(many))
                labels = many * (many + 1) // 2
                if labels <= most:
                    self.assertEqual(len(Reach(Ranges(), keys, most=most).labels()), labels)
                else:
                    self.fails(TooMany, lambda: Reach(Ranges(), keys, most=most))

    def test_two_hundred_and_more(self):
        def up_to(many):
            return Calls(own=lambda key: key, join=lambda one, other: min(one + other, many - 1), consistent=None,
                         matches=None)

        for kind, most, wanted in ((up_to(200), 200, 200), (up_to(199), 200, 199), (up_to(50), 50, 50)):
            self.assertEqual(len(Reach(kind, [0, 1], most=most).labels()), wanted)
        self.assertEqual(len(Reach(up_to(200), [0, 1]).labels()), 200)
        self.fails(TooMany, lambda: Reach(up_to(201), [0, 1]))
        self.fails(TooMany, lambda: Reach(up_to(201), [0, 1], most=200))
        self.fails(TooMany, lambda: Reach(up_to(51), [0, 1], most=50))

    def test_endless_joins(self):
        for most in (1, 2, 17, 200):
            kind = Noting(counter())
            for _ in range(3):
                self.fails(TooMany, lambda: Reach(kind, ["key"], most=most))
        reach = Reach(Ranges(), list(range(19)))
        self.assertEqual(len(reach.labels()), 190)
        before = told(reach)
        for _ in range(3):
            self.fails(TooMany, lambda: reach.add(19))
            self.assertEqual(told(reach), before)
        self.assertIsNone(reach.add(18))
        self.assertEqual(told(reach), before)

    def test_own_labels_count(self):
        reach = Reach(Calls(own=lambda key: key, join=Grid(0), consistent=None, matches=None), [0, 1], most=2)
        self.fails(TooMany, lambda: reach.add(2))
        self.assertEqual(reach.labels(), [0, 1])

    def test_other_keys_behind_a_key_that_is_too_much(self):
        reach = Reach(Rests(), [0, 6], most=5)
        self.assertEqual(reach.labels(), [(0, 0), (0, 6), (6, 0)])
        before = told(reach)
        for _ in range(2):
            self.fails(TooMany, lambda: reach.add(1))
            self.assertEqual(told(reach), before)
        reach.add(12)
        self.assertEqual(reach.labels(), [(0, 0), (0, 12), (0, 6), (12, 0), (6, 0)])
        self.assertEqual(told(reach), told(Reach(Rests(), [0, 6, 12])))

    def test_keys_that_fail_among_keys_that_do_not(self):
        """A reach of all keys that went in is the same, however many failed in between and with what."""
        for seed in range(30):
            kind, keys = table_kind(seed, 9, 6)
            bad = {("own", ("odd",)): "odd", ("join", ("odd", "odd")): "odd"}
            for at, label in enumerate(Reach(kind, keys).labels()):
                bad["join", (label, "odd")] = [label] if at == seed % 5 else label
                bad["join", ("odd", label)] = label
            reach, good = Reach(Replacing(kind, bad), most=9), []
            for key in keys:
                try:
                    reach.add(key)
                    reach.add("odd")
                    good += [key, "odd"]
                except (BadValue, TooMany):
                    good += [key] if key in reach.given() else []
                self.assertEqual(told(reach), told(Reach(Replacing(kind, bad), good)))


class WrongValuesTest(Checks):

    def test_keys_that_are_not_plain(self):
        for wrong in odd_things():
            if not is_plain(wrong):
                kind = Noting(Ranges())
                self.fails(BadValue, lambda: Reach(kind, [wrong]), value=wrong)
                reach = Reach(kind, [1, 5])
                before = told(reach)
                kind.calls.clear()
                for _ in range(2):
                    self.fails(BadValue, lambda: reach.add(wrong), value=wrong)
                self.assertEqual((kind.calls, told(reach)), ([], before))

    def test_a_flag_is_not_the_integer_that_is_given(self):
        reach = Reach(Ranges(), [0, 1])
        for wrong in (True, False, 1.0, 0.0):
            self.fails(BadValue, lambda: reach.add(wrong), value=wrong)

    def test_the_first_wrong_key(self):
        self.fails(BadValue, lambda: Reach(Ranges(), [1, [2], [3]]), value=[2])
        self.fails(BadValue, lambda: Reach(Ranges(), (1, True, [3])), value=True)

    def test_own_that_returns_no_plain_value(self):
        for wrong in odd_things():
            if not is_plain(wrong):
                kind = Replacing(Ranges(), {("own", (3,)): wrong})
                self.fails(BadValue, lambda: Reach(kind, [1, 3]), value=wrong)
                reach = Reach(kind, [1, 5])
                before = told(reach)
                for _ in range(2):
                    self.fails(BadValue, lambda: reach.add(3), value=wrong)
                    self.assertEqual(told(reach), before)
                reach.add(4)
                self.assertEqual(told(reach), told(Reach(Ranges(), [1, 4, 5])))

    def test_join_that_returns_no_plain_value(self):
        for wrong in ([1, 3], True, 1.5, (1, [3]), (((((1,),),),),), Grid()):
            for pair in (((1, 1), (3, 3)), ((3, 3), (1, 1)), ((3, 3), (3, 3)), ((1, 3), (1, 5)), ((1, 5), (3, 5))):
                kind = Replacing(Ranges(), {("join", pair): wrong})
                self.fails(BadValue, lambda: Reach(kind, [1, 5, 3]), value=wrong)
                reach = Reach(kind, [1, 5])
                before = told(reach)
                for _ in range(2):
                    self.fails(BadValue, lambda: reach.add(3), value=wrong)
                    self.assertEqual(told(reach), before)
                reach.add(7)
                self.assertEqual(told(reach), told(Reach(Ranges(), [1, 5, 7])))

    def test_what_is_not_given_comes_through(self):
        self.fails(NotGiven, lambda: Reach(Kind(), [1]), name="own")

        class Alone(Kind):
            def own(self, key):
                return key

        reach = Reach(Alone())
        self.fails(NotGiven, lambda: reach.add(1), name="join")
        self.assertEqual(told(reach), ([], [], [], [], []))

    def test_joins_of_labels_that_are_not_reached_are_not_missed(self):
        kind = Replacing(Ranges(), {("join", ((1, 1), (3, 3))): [], ("own", (9,)): []})
        self.assertEqual(len(Reach(kind, [1, 5, 7]).labels()), 6)


class NotReachedTest(Checks):

    def setUp(self):
        self.kind = Noting(Ranges())
        self.reach = Reach(self.kind, [1, 5, 9])
        self.before = told(self.reach)

    def tearDown(self):
        self.assertEqual(told(self.reach), self.before)

    def test_labels(self):
        for label in [*odd_things(), (9, 1), (1, 4), (1, 5, 9), 1, 5, (1.0, 5), (True, 5), (1, [5]), [1, 5]]:
            for _ in range(2):
                self.fails(NoLabel, lambda: self.reach.least(label), label=label)
            self.fails(NoLabel, lambda: self.reach.least(label=label), label=label)

    def test_pairs(self):
        for label in [*odd_things(), (9, 1), (1, 4), 1, (1.0, 5), (True, 5), [1, 5]]:
            for key in (1, 4, [1], None):
                self.fails(NoPair, lambda: self.reach.least_with(label, key), label=label, key=key)
        for key in [*odd_things(), 4, True, 1.0, (1,), "1", [1]]:
            self.fails(NoPair, lambda: self.reach.least_with((1, 5), key), label=(1, 5), key=key)
        for label, key in (((1, 1), 5), ((1, 5), 9), ((9, 9), 1)):
            self.fails(NoPair, lambda: self.reach.least_with(label, key), label=label, key=key)
            self.fails(NoPair, lambda: self.reach.least_with(key=key, label=label), label=label, key=key)

    def test_empty_reach(self):
        for thing in odd_things():
            self.fails(NoLabel, lambda: Reach(Ranges()).least(thing), label=thing)
            self.fails(NoPair, lambda: Reach(Ranges()).least_with(thing, thing), label=thing, key=thing)

    def test_reached_later(self):
        reach = Reach(Ranges(), [1])
        self.fails(NoLabel, lambda: reach.least((1, 5)), label=(1, 5))
        self.fails(NoPair, lambda: reach.least_with((1, 5), 1), label=(1, 5), key=1)
        reach.add(5)
        self.assertEqual([reach.least((1, 5)), reach.least_with((1, 5), 1), reach.least_with((1, 5), 5)], [2, 2, 2])


class AskedTest(Checks):

    def test_own_and_join_only(self):
        for inner, keys in ready_cases():
            kind = Noting(inner)
            reach = Reach(kind, keys)
            told(reach)
            self.assertLessEqual(kind.names(), {"own", "join"})
            self.assertEqual(set(kind.named("own")), {(key,) for key in keys})

    def test_nothing_is_asked_by_what_is_told(self):
        for inner, keys in ready_cases():
            kind = Noting(inner)
            reach = Reach(kind, keys)
            kind.calls.clear()
            told(reach)
            for key in keys:
                reach.add(key)
            self.assertEqual(kind.calls, [])

    def test_join_is_asked_for_reached_labels_only(self):
        chance = random.Random(11)
        for seed in range(30):
            inner, keys = table_kind(seed, 2 + seed % 7, 1 + seed % 6)
            kind = Noting(inner)
            reach = Reach(kind)
            for key in chance.sample(keys, len(keys)):
                kind.calls.clear()
                reach.add(key)
                labels = reach.labels()
                self.assertTrue(all(one in labels and other in labels for one, other in kind.named("join")))

    def test_join_of_a_key_that_fails_is_asked_for_what_it_would_reach(self):
        kind = Noting(Replacing(Ranges(), {("join", ((1, 3), (3, 5))): []}))
        reach = Reach(kind, [1, 5])
        kind.calls.clear()
        with self.assertRaises(BadValue):
            reach.add(3)
        labels = Reach(Ranges(), [1, 3, 5]).labels()
        self.assertTrue(all(one in labels and other in labels for one, other in kind.named("join")))

    def test_first_key_needs_one_join(self):
        kind = Noting(Ranges())
        Reach(kind, [4])
        self.assertEqual(kind.calls, [("own", (4,)), ("join", ((4, 4), (4, 4)))])
