"""[11.12] The errors of play, weavings, first_miss and is_miss_weaving, in their order."""

from checks import Checks
from sample_kinds import Noting, Replacing, odd_things

from kindgrove.errors import BadCount, BadOrder, BadValue, BadWork, NotGiven, TooMany
from kindgrove.kinds import Kind
from kindgrove.ranges import Ranges
from kindgrove.values import is_plain
from kindgrove.weavings import first_miss, is_miss_weaving, play, weavings

WORKS = [("search", (0, 9)), ("put", 4)]


def asks(**more):
    """All four functions, as calls with kind, keys and works."""
    return [lambda kind, keys, works: play(kind, keys, works, (), **more),
            lambda kind, keys, works: weavings(kind, keys, works, **more),
            lambda kind, keys, works: first_miss(kind, keys, works, **more),
            lambda kind, keys, works: is_miss_weaving(kind, keys, works, (0,), **more)]


class ErrorsTest(Checks):

    def all_fail(self, error, kind, keys, works, told, **more):
        for ask in asks(**more):
            self.fails(error, lambda: ask(kind, keys, works), **told)

    def test_keys(self):
        for wrong in odd_things():
            for works in (WORKS, "no works", [None], WORKS * 4):
                for most in (4, None):
                    if not isinstance(wrong, (list, tuple)):
                        self.all_fail(BadValue, Ranges(), wrong, works, {"value": wrong}, most=most)
                    if not is_plain(wrong):
                        self.all_fail(BadValue, Ranges(), [1, wrong, [2]], works, {"value": wrong}, most=most)
                        self.all_fail(BadValue, Ranges(), (wrong, True), works, {"value": wrong}, most=most)

    def test_works_that_are_no_list(self):
        for wrong in odd_things():
            if not isinstance(wrong, (list, tuple)):
                for most in (4, 1, None):
                    self.all_fail(BadWork, Ranges(), [1, 2], wrong, {"at": -1}, most=most)
        self.all_fail(BadWork, Ranges(), [], {("put", 1): 1}, {"at": -1})

    def test_at_most_six_works(self):
        self.all_fail(BadWork, Ranges(), [1], [("put", 1)] * 7, {"at": -1})
        self.all_fail(BadWork, Ranges(), [1], [None] * 7, {"at": -1})
        self.all_fail(BadWork, Ranges(), [1], tuple([("put", 1)] * 100), {"at": -1}, most=1)
        self.assertEqual(play(Ranges(), [1], [("put", 1)] * 6, range_order(6), most=50), (1, 2, 3, 4, 5, 6))

    def test_works_that_are_none(self):
        wrong_works = [*odd_things(), ["put", 1], ("put",), ("put", 1, 2), ("Put", 1), ("seek", 1), (b"put", 1), "put",
                       ("put", [1]), ("search", True), ("put", 1.0), (1, "put"), (("put",), 1),
                       ("search", (1, (True,)))]
        for wrong in wrong_works:
            for most in (4, 51, None):
                self.all_fail(BadWork, Ranges(), [1], [wrong], {"at": 0}, most=most)
                self.all_fail(BadWork, Ranges(), [1], (*WORKS, wrong, None), {"at": 2}, most=most)
        self.all_fail(BadWork, Ranges(), [1], [("put", deep_tuple(5)), None], {"at": 0})
        self.assertEqual(play(Kind(), [], [("put", deep_tuple(4))], ()), (None,))

    def test_widths(self):
        for most in [*odd_things(), 1, 0, -1, 51, True, 4.0, "4"]:
            self.all_fail(BadCount, Ranges(), [1, 2], WORKS, {"count": most}, most=most)
            for ask in (weavings, first_miss):
                self.fails(BadCount, lambda: ask(Ranges(), [1], WORKS, most=most, limit=0), count=most)
            self.fails(BadCount, lambda: play(Ranges(), [1], WORKS, "no order", most=most), count=most)

    def test_limits(self):
        bad = Replacing(Ranges(), {("own", (1,)): []})
        for limit in [*odd_things(), 0, -1, 20001, 10 ** 30, True, 1.0, "5"]:
            for ask in (weavings, first_miss):
                self.fails(BadCount, lambda: ask(Ranges(), [1, 2], WORKS, limit=limit), count=limit)
                self.fails(BadCount, lambda: ask(bad, [1, 1, 1], WORKS, most=2, limit=limit), count=limit)
        for ask in (weavings, first_miss):
            ask(Ranges(), [1, 2], [], limit=1)
            ask(Ranges(), [1, 2], WORKS, limit=20000)

    def test_orders_that_are_no_list(self):
        bad = Replacing(Ranges(), {("own", (1,)): []})
        for wrong in odd_things():
            if not isinstance(wrong, (list, tuple)):
                for kind in (Ranges(), bad):
                    self.fails(BadOrder, lambda: play(kind, [1, 1, 1], WORKS, wrong, most=2), at=-1)
        self.fails(BadOrder, lambda: play(Ranges(), [], [], range(0)), at=-1)

    def test_items_of_orders(self):
        for wrong in [*odd_things(), 2, -1, True, False, 1.0, "0", (0,)]:
            for order in ((), (0,), (1,), (0, 0)):
                if len(order) < 2:
                    self.fails(BadOrder, lambda: play(Ranges(), [1, 2], WORKS, (*order, wrong)), at=len(order))
                    self.fails(BadOrder, lambda: play(Ranges(), [1, 2], WORKS, [*order, wrong, None]), at=len(order))
        self.fails(BadOrder, lambda: play(Ranges(), [], [], (0,)), at=0)

    def test_works_that_are_done(self):
        self.fails(BadOrder, lambda: play(Ranges(), [1, 2], WORKS, (0, 0)), at=1)
        self.fails(BadOrder, lambda: play(Ranges(), [1, 2], WORKS, (0, 1, 1, 5)), at=2)
        self.fails(BadOrder, lambda: play(Ranges(), [1, 2], WORKS, (1, 0, 0, 0)), at=2)
        self.fails(BadOrder, lambda: play(Ranges(), [1, 2, 3], WORKS, (1, 1, 1, 1), most=2), at=3)
        self.assertEqual(play(Ranges(), [1, 2, 3], WORKS, (1, 1, 1), most=2), (None, 3))

    def test_limit_and_order_by_name_only(self):
        for call in (lambda: weavings(Ranges(), [], [], 4), lambda: first_miss(Ranges(), [], [], 4),
                     lambda: play(Ranges(), [], [], (), 4), lambda: is_miss_weaving(Ranges(), [], [], (), 4)):
            with self.assertRaises(TypeError):
                call()


def range_order(many):
    return list(range(many))


def deep_tuple(depth):
    thing = 1
    for _ in range(depth):
        thing = (thing,)
    return thing


class BadLabelTest(Checks):

    def test_labels_of_the_keys(self):
        kind = Replacing(Ranges(), {("own", (1,)): [1]})
        for ask in asks(most=2):
            self.fails(BadValue, lambda: ask(kind, [1, 2, 3], WORKS), value=[1])

    def test_labels_that_a_step_needs(self):
        kind = Replacing(Ranges(), {("own", (4,)): [4]})
        keys = [1, 2, 3]
        self.assertEqual(play(kind, keys, WORKS, (1, 1), most=2), (None, None))
        self.fails(BadValue, lambda: play(kind, keys, WORKS, (1, 1, 1), most=2), value=[4])
        self.fails(BadValue, lambda: is_miss_weaving(kind, keys, WORKS, (1, 1, 1), most=2), value=[4])
        self.assertIs(is_miss_weaving(kind, keys, WORKS, (1, 1), most=2), False)
        for ask in (weavings, first_miss):
            self.fails(BadValue, lambda: ask(kind, keys, WORKS, most=2), value=[4])
            self.fails(BadValue, lambda: ask(kind, keys, [("put", 4)], most=2), value=[4])

    def test_an_order_that_goes_wrong_is_told_ahead_of_labels(self):
        kind = Replacing(Ranges(), {("own", (4,)): [4]})
        keys = [1, 2, 3]
        for order, at in (((1, 1, 1, 7), 3), ((1, 1, 1, 0, None), 4), ((0, 0, 0, 1, 1, 1, 0), 6), ((7, 1, 1, 1), 0)):
            self.fails(BadOrder, lambda: play(kind, keys, WORKS, order, most=2), at=at)
            self.assertIs(is_miss_weaving(kind, keys, WORKS, order, most=2), False)
        for order, at in (((2,), 0), ((0, 1, -1), 2)):
            bad = Replacing(Ranges(), {("own", (1,)): [1]})
            self.fails(BadOrder, lambda: play(bad, keys, WORKS, order, most=2), at=at)
            self.fails(BadValue, lambda: play(bad, keys, WORKS, order[:at], most=2), value=[1])

    def test_too_many_states_are_told_ahead_of_labels(self):
        kind = Replacing(Ranges(), {("own", (4,)): [4]})
        works = [("put", 4), ("search", (0, 9)), ("search", (1, 2))]
        for ask in (weavings, first_miss):
            self.fails(TooMany, lambda: ask(kind, [1, 2, 3], works, most=2, limit=5))
            self.fails(BadValue, lambda: ask(kind, [1, 2, 3], works, most=2, limit=2000), value=[4])

    def test_a_miss_ahead_of_the_step_that_needs_a_label(self):
        lossy = Replacing(Ranges(), {("consistent", ((2, 3), (0, 9))): False, ("consistent", ((1, 1), (0, 9))): False,
                                     ("own", (4,)): [4]})
        self.assertEqual(first_miss(lossy, [1, 2, 3], WORKS, most=2), (0,))
        self.fails(BadValue, lambda: weavings(lossy, [1, 2, 3], WORKS, most=2), value=[4])

    def test_what_is_not_given_comes_through(self):
        self.fails(NotGiven, lambda: play(Kind(), [1, 2, 3], WORKS, (), most=2), name="own")
        self.fails(NotGiven, lambda: weavings(Kind(), [], [("put", 1), ("search", 1)]), name="matches")


class UnchangedTest(Checks):

    def test_arguments_stay_as_they_are(self):
        keys, works, order = [1, 2, 3], [("search", (0, 9)), ("put", 4)], [0, 1, 1]
        before = (list(keys), list(works), list(order))
        for _ in range(2):
            self.assertEqual(play(Ranges(), keys, works, order, most=2), (None, None))
            self.assertEqual(weavings(Ranges(), keys, works, most=2),
                             [((0, 1, 2), 3), ((0, 1, 2, 3), 3)])
            self.assertIsNone(first_miss(Ranges(), keys, works, most=2))
            self.assertEqual((keys, works, order), before)

    def test_what_is_asked(self):
        kind = Noting(Ranges())
        weavings(kind, [1, 2, 3], WORKS, most=2)
        first_miss(kind, [1, 2, 3], WORKS, most=2)
        self.assertLessEqual(kind.names(), {"own", "join", "consistent", "matches", "penalty"})
