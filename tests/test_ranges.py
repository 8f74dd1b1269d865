"""[3.6], [3.7] Ranges, worked out here by going through the integers of small ranges one by one."""

import random

from checks import Checks

from kindgrove.kinds import Kind, Measured
from kindgrove.ranges import Ranges

BIG = 10 ** 399
SMALL = range(-4, 5)
LABELS = [(low, high) for low in SMALL for high in SMALL if low <= high]
QUESTIONS = [(low, high) for low in SMALL for high in SMALL]


def held(span):
    """The integers of a range; none if its low is above its high."""
    return set(range(span[0], span[1] + 1))


def halves(marks):
    """[3.6], by taking away the least one again and again."""
    left = list(range(len(marks)))
    sides = [1] * len(marks)
    for _ in range(len(marks) // 2):
        least = left[0]
        for at in left:
            if marks[at] < marks[least]:
                least = at
        left.remove(least)
        sides[least] = 0
    return sides


class RangesTest(Checks):

    def setUp(self):
        self.kind = Ranges()

    def test_it_is_a_measured_kind(self):
        self.assertTrue(isinstance(self.kind, Kind) and isinstance(self.kind, Measured))

    def test_example(self):
        self.assertEqual([self.kind.join((3, 9), (5, 12)), self.kind.penalty((3, 9), 12)], [(3, 12), 3])
        self.assertEqual(self.kind.sides([(5, 5), (1, 2), (4, 9)]), [1, 0, 1])

    def test_own(self):
        for key in (0, -3, BIG, -BIG):
            self.assertEqual((self.kind.own(key), self.kind.own(key=key)), ((key, key), (key, key)))

    def test_join(self):
        for one in LABELS:
            for other in LABELS:
                both = held(one) | held(other)
                self.assertEqual(self.kind.join(one, other), (min(both), max(both)))
        self.assertEqual(self.kind.join(one=(-BIG, 3), other=(2, BIG)), (-BIG, BIG))
        self.assertEqual(self.kind.join((BIG, BIG + 1), (BIG - 1, BIG)), (BIG - 1, BIG + 1))

    def test_consistent(self):
        for label in LABELS:
            for question in QUESTIONS:
                wanted = bool(held(label) & held(question))
                self.assertIs(self.kind.consistent(label, question), wanted)
        self.assertIs(self.kind.consistent(label=(-BIG, BIG), question=(BIG, BIG + 1)), True)
        self.assertIs(self.kind.consistent((-BIG, BIG), (BIG + 1, BIG + 2)), False)
        self.assertIs(self.kind.consistent((-BIG, BIG), (5, 4)), False)

    def test_matches(self):
        for key in SMALL:
            for question in QUESTIONS:
                self.assertIs(self.kind.matches(key, question), key in held(question))
        self.assertIs(self.kind.matches(key=BIG, question=(BIG, BIG)), True)
        self.assertIs(self.kind.matches(BIG, (BIG + 1, BIG - 1)), False)

    def test_penalty(self):
        for label in LABELS:
            for key in SMALL:
                grown = held(label) | {key}
                wanted = (max(grown) - min(grown)) - (max(held(label)) - min(held(label)))
                self.assertEqual(self.kind.penalty(label, key), wanted)
        self.assertEqual(self.kind.penalty(label=(0, 5), key=BIG), BIG - 5)
        self.assertEqual([self.kind.penalty((0, 5), -BIG), self.kind.penalty((-BIG, BIG), 7)], [BIG, 0])

    def test_distance_and_bound(self):
        for point in SMALL:
            for key in SMALL:
                self.assertEqual(self.kind.distance(key, point), len(range(min(key, point), max(key, point))))
            for label in LABELS:
                self.assertEqual(self.kind.bound(label, point), min(abs(key - point) for key in held(label)))
        self.assertEqual(self.kind.distance(key=BIG, point=-BIG), 2 * BIG)
        self.assertEqual(self.kind.bound(label=(BIG, BIG + 5), point=1), BIG - 1)
        self.assertEqual([self.kind.bound((-BIG, BIG), 3), self.kind.bound((-BIG, 0), BIG)], [0, BIG])

    def test_sides(self):
        chance = random.Random(1)
        for many in range(31):
            for spread in (0, 1, 3, 50, BIG):
                lows = [chance.randint(-spread, spread) for _ in range(many)]
                labels = [(low, low + chance.randint(0, spread)) for low in lows]
                found = self.kind.sides(labels)
                self.assertEqual(found, halves([low + high for low, high in labels]))
                self.assertEqual(self.kind.sides(labels=tuple(labels)), found)

    def test_sides_at_the_edges(self):
        self.assertEqual([self.kind.sides([]), self.kind.sides([(3, 4)])], [[], [1]])
        self.assertEqual(self.kind.sides([(2, 2)] * 5), [0, 0, 1, 1, 1])
        self.assertEqual(self.kind.sides([(0, 4), (1, 3), (2, 2), (-9, 13)]), [0, 0, 1, 1])
        self.assertEqual(self.kind.sides([(2, 3), (2, 2), (0, 4), (1, 1)]), [1, 0, 1, 0])
        self.assertEqual(self.kind.sides([(0, 9), (1, 1)]), [1, 0])

    def test_arguments_are_not_changed_and_lists_are_new(self):
        labels = [(5, 5), (1, 2)]
        self.kind.sides(labels).clear()
        self.assertEqual((labels, self.kind.sides(labels)), ([(5, 5), (1, 2)], [1, 0]))

    def test_own_and_join_alone_do_not_serve_the_others(self):
        """Who counts the calls of own and join by a class below counts those of the tree alone."""
        class Deaf(Ranges):
            def own(self, key):
                raise AssertionError()

            def join(self, one, other):
                raise AssertionError()

        self.assertEqual([Deaf().penalty((3, 9), 12), Deaf().sides([(1, 1), (0, 0)])], [3, [1, 0]])
