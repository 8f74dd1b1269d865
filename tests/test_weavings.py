"""[11.11], [11.12] Weavings against all orders of steps of small scenes."""

import random

from checks import Checks
from model_weavings import ModelScene, Summary
from sample_kinds import Replacing, Texts, odd_things

from kindgrove.errors import TooMany
from kindgrove.kinds import Calls
from kindgrove.ranges import Ranges
from kindgrove.rests import Rests, Stems
from kindgrove.weavings import first_miss, is_miss_weaving, play, weavings
from kindgrove.yards import Yard

EXAMPLE = (Ranges(), [1, 2, 3], [("search", (0, 9)), ("put", 4)])
BLIND = Replacing(Ranges(), {("consistent", ((2, 3), (0, 9))): False, ("consistent", ((3, 4), (0, 9))): False})


def small_scenes():
    """Scenes as (kind, keys, works, most, linked)."""
    for linked in (True, False):
        yield (*EXAMPLE, 2, linked)
        yield Ranges(), [], [("put", 1), ("search", (0, 9)), ("put", 2)], 2, linked
        yield Ranges(), (1, 2), (("put", 3), ("search", (0, 9)), ("put", 4)), 2, linked
        yield Ranges(), [1, 2, 3], [("search", (3, 3)), ("put", 3), ("search", (2, 9))], 2, linked
        yield Ranges(), [5, 1, 9, 3], [("put", 4), ("search", (1, 5))], 2, linked
        yield Ranges(), [1, 2, 3], [("put", 4), ("put", 0)], 2, linked
        yield Ranges(), [1, 2, 3, 4], [("put", 5), ("put", 6), ("search", (4, 9))], 3, linked
        yield Texts(), [1, 2, 3, 4], [("search", 2), ("put", 2)], 3, linked
        yield Stems(), ["a", "ab", "b"], [("search", "a"), ("put", "abc"), ("search", "b")], 2, linked
        yield Rests(), [3, 7], [("put", 12), ("search", (2, 1)), ("search", (3, 0))], 2, linked
        yield BLIND, [1, 2, 3], [("search", (0, 9)), ("put", 4)], 2, linked
        yield Ranges(), [1], [("search", (0, 9))], 4, linked
        yield Ranges(), [1, 2, 3], [], 2, linked


def summaries():
    if not SUMMARIES:
        SUMMARIES.extend((scene, Summary(ModelScene(*scene))) for scene in small_scenes())
    return SUMMARIES


SUMMARIES = []


class PlayTest(Checks):

    def test_examples(self):
        kind, keys, works = EXAMPLE
        self.assertEqual(play(kind, keys, works, (0, 1, 1, 0, 0), most=2, linked=False), ((0, 1), None))
        self.assertEqual(play(kind, keys, works, (0, 1, 1, 0, 0, 0), most=2), ((0, 1, 2, 3), None))
        self.assertEqual(play(linked=True, most=2, order=[0, 1, 1], works=tuple(works), keys=tuple(keys), kind=kind),
                         (None, None))

    def test_all_orders_of_small_scenes(self):
        for kind, keys, works, most, linked in small_scenes():
            scene = ModelScene(kind, keys, works, most, linked)
            for count, (order, made) in enumerate(scene.orders()):
                if count % 7 == 0:
                    found = play(kind, keys, works, order, most=most, linked=linked)
                    self.assertEqual(found, scene.outcome(made))
                    self.assertEqual(repr(found), repr(scene.outcome(made)))

    def test_numbers_of_puts(self):
        works = [("put", 7), ("search", (0, 9)), ("put", 8)]
        self.assertEqual(play(Ranges(), [1, 2], works, (2, 0, 1), most=4), (2, (0, 1, 2, 3), 3))
        self.assertEqual(play(Ranges(), [], works, ()), (None, None, None))
        self.assertEqual(play(Ranges(), [], [], []), ())

    def test_default_width_and_links(self):
        works = [("search", (0, 99)), ("put", 9)]
        self.assertEqual(play(Ranges(), range_list(8), works, (0, 1, 1, 0, 0, 0, 0)), (tuple(range(9)), None))
        self.assertEqual(play(Ranges(), range_list(8), works, (0, 1, 1, 0, 0, 0), linked=False),
                         ((0, 1, 2, 3, 4, 5), None))

    def test_as_in_a_yard(self):
        chance = random.Random(3)
        for kind, keys, works, most, linked in small_scenes():
            for _ in range(10):
                yard = Yard(kind, most=most, linked=linked)
                for key in keys:
                    yard.run(yard.put(key))
                made = [yard.put(told) if word == "put" else yard.seek(told) for word, told in works]
                order = []
                for _ in range(chance.randrange(30)):
                    going_on = [at for at, work in enumerate(made) if not work.is_done]
                    if going_on:
                        order.append(chance.choice(going_on))
                        made[order[-1]].step()
                wanted = tuple(None if not work.is_done else work.row_number if word == "put"
                               else tuple(sorted(work.told)) for work, (word, _) in zip(made, works))
                self.assertEqual(play(kind, keys, works, order, most=most, linked=linked), wanted)


def range_list(many):
    return list(range(many))


class WeavingsTest(Checks):

    def test_all_outcomes(self):
        for (kind, keys, works, most, linked), summary in summaries():
            wanted = sorted(summary.outcomes, key=repr)
            self.assertEqual(weavings(kind, keys, works, most=most, linked=linked), wanted)
            self.assertEqual(weavings(limit=20000, linked=linked, most=most, works=tuple(works), keys=tuple(keys),
                                      kind=kind), wanted)
        self.assertTrue(any(len(summary.outcomes) > 2 for _, summary in summaries()))

    def test_no_works(self):
        self.assertEqual(weavings(Ranges(), [], [], limit=1), [()])
        self.assertEqual(weavings(Ranges(), [1, 2, 3], (), most=2, limit=1), [()])

    def test_limits(self):
        for (kind, keys, works, most, linked), summary in summaries():
            many = summary.states()
            self.assertEqual(len(weavings(kind, keys, works, most=most, linked=linked, limit=many)),
                             len(summary.outcomes))
            for fewer in {1, many // 2, many - 1} - {0, many}:
                self.fails(TooMany, lambda: weavings(kind, keys, works, most=most, linked=linked, limit=fewer))

    def test_same_states_on_other_ways(self):
        """Two puts that do not meet lead to one state, whatever the order: 2 * 2 states and not more."""
        works = [("search", (0, 0)), ("search", (7, 7))]
        self.assertEqual(weavings(Ranges(), [1], works, limit=4), [((), ())])
        self.fails(TooMany, lambda: weavings(Ranges(), [1], works, limit=3))

    def test_default_limit(self):
        works = [("search", (0, 99))] * 6
        self.fails(TooMany, lambda: weavings(Ranges(), [1, 2, 3], works, most=2))
        self.assertEqual(len(weavings(Ranges(), [1, 2, 3], works, most=2, limit=4096)), 1)
        self.fails(TooMany, lambda: weavings(Ranges(), [1, 2, 3], works, most=2, limit=4095))

    def test_orders_by_repr(self):
        works = [("put", 11), ("put", 12), ("search", (11, 99)), ("put", 13)]
        found = weavings(Ranges(), range_list(8), works, most=50)
        self.assertEqual(found, sorted(found, key=repr))
        self.assertNotEqual(found, sorted(found))
        self.assertEqual(len(found), 8)


class FirstMissTest(Checks):

    def test_fewest_steps(self):
        for (kind, keys, works, most, linked), summary in summaries():
            found = first_miss(kind, keys, works, most=most, linked=linked)
            if summary.least is None:
                self.assertIsNone(found)
            else:
                self.assertIs(type(found), tuple)
                self.assertEqual(len(found), summary.least)
                self.assertIn(found, summary.misses)
                self.assertIs(is_miss_weaving(kind, keys, works, found, most=most, linked=linked), True)
            self.assertEqual(first_miss(limit=20000, linked=linked, most=most, works=tuple(works), keys=tuple(keys),
                                        kind=kind), found)
        self.assertTrue(any(summary.least is None for _, summary in summaries()))
        self.assertTrue(any(summary.least is not None for _, summary in summaries()))

    def test_exact_kinds_in_linked_yards_miss_nothing(self):
        for (kind, keys, works, most, linked), summary in summaries():
            if linked and kind != BLIND:
                self.assertIsNone(summary.least)

    def test_example(self):
        kind, keys, works = EXAMPLE
        self.assertIsNone(first_miss(kind, keys, works, most=2))
        self.assertEqual(len(first_miss(kind, keys, works, most=2, linked=False)), 5)
        self.assertIs(is_miss_weaving(kind, keys, works, (0, 1, 1, 0, 0), most=2, linked=False), True)

    def test_limits(self):
        for (kind, keys, works, most, linked), summary in summaries():
            many = summary.states_for_miss()
            found = first_miss(kind, keys, works, most=most, linked=linked, limit=many)
            self.assertEqual(found is None, summary.least is None)
            for fewer in {1, many // 2, many - 1} - {0, many}:
                self.fails(TooMany, lambda: first_miss(kind, keys, works, most=most, linked=linked, limit=fewer))
        counts = [(summary.states_for_miss(), summary.states()) for _, summary in summaries()]
        self.assertTrue(any(first < every for first, every in counts))

    def test_states_beyond_the_miss_do_not_count(self):
        lossy = Replacing(Ranges(), {("consistent", ((2, 3), (0, 9))): False, ("consistent", ((1, 1), (0, 9))): False})
        works = [("search", (0, 9)), *[("put", key) for key in (4, 5, 6, 7, 8)]]
        self.assertEqual(first_miss(lossy, [1, 2, 3], works, most=2, limit=1), (0,))
        self.fails(TooMany, lambda: weavings(lossy, [1, 2, 3], works, most=2))

    def test_a_matching_row_that_was_put_before_the_search_began(self):
        shut = Calls(own=lambda key: key, join=max, consistent=lambda label, question: label != 3,
                     matches=lambda key, question: key == question)
        works = [("put", 2), ("search", 2)]
        # Only behind the put, and with a label 3 above it, is the row lost.
        found = first_miss(shut, [3, 1, 3], works, most=2)
        self.assertEqual(found[-1], 1)
        self.assertLess(found.index(0), found.index(1))
        self.assertIs(is_miss_weaving(shut, [3, 1, 3], works, (1, 0, 0), most=2), False)


class IsMissWeavingTest(Checks):

    def judged(self, thing, scene=(*EXAMPLE, 2, False)):
        kind, keys, works, most, linked = scene
        found = is_miss_weaving(kind, keys, works, thing, most=most, linked=linked)
        self.assertIs(is_miss_weaving(linked=linked, most=most, thing=thing, works=tuple(works), keys=tuple(keys),
                                      kind=kind), found)
        return found

    def test_all_orders(self):
        for scene, summary in summaries():
            for order in summary.misses[::3]:
                self.assertIs(self.judged(order, scene), True)
            for order in summary.others[::5]:
                self.assertIs(self.judged(order, scene), False)

    def test_whatever_object(self):
        for thing in odd_things():
            self.assertIs(self.judged(thing), False)
            self.assertIs(self.judged((0, 1, 1, 0, 0, thing)), thing == 1 and not isinstance(thing, (bool, float)))
            self.assertIs(self.judged((thing, 1, 1, 0, 0)), False)
            self.assertIs(self.judged((0, thing, 1, 0, 0)), False)

    def test_not_quite(self):
        for thing in ([0, 1, 1, 0, 0], (0, 1, 1, 0), (0, 1, 1, 0, 0, 0), (0, 1, 1, 0, 0, 2), (0, 1, 1, 0, 0, -1),
                      (False, True, True, False, False), (0.0, 1, 1, 0, 0), (1, 0, 1, 1, 0, 0, 0, 0, 0, 0), ()):
            self.assertIs(self.judged(thing), False)

    def test_further_steps_behind_a_miss(self):
        self.assertIs(self.judged((0, 1, 1, 0, 0, 1)), True)
        self.assertIs(self.judged((0, 1, 1, 0, 0, 1, 1)), False)
        self.assertIs(self.judged((0, 1, 1, 0, 0) * 10000), False)
