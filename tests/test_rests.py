"""[3.9] Rests, worked out here over windows of integers."""

import math

from checks import Checks

from kindgrove.kinds import Kind, Measured
from kindgrove.rests import Rests

BIG = 10 ** 399
WINDOW = range(-60, 61)
LABELS = [(0, rest) for rest in range(-7, 8)] + [(modulus, rest) for modulus in range(1, 7) for rest in range(modulus)]
QUESTIONS = [(modulus, rest) for modulus in range(1, 9) for rest in range(modulus)]


def held(label, window=WINDOW):
    """The integers of the window that a label holds."""
    modulus, rest = label
    return {number for number in window if (number == rest if modulus == 0 else number % modulus == rest)}


class RestsTest(Checks):

    def setUp(self):
        self.kind = Rests()

    def test_it_is_a_kind_without_distances(self):
        self.assertTrue(isinstance(self.kind, Kind))
        self.assertFalse(isinstance(self.kind, Measured))

    def test_examples(self):
        self.assertEqual(self.kind.join((0, 7), (0, 19)), (12, 7))
        self.assertIs(self.kind.consistent((12, 7), (8, 3)), True)
        self.assertIs(self.kind.consistent((12, 7), (8, 2)), False)

    def test_own(self):
        for key in (0, 5, -5, BIG, -BIG):
            self.assertEqual((self.kind.own(key), self.kind.own(key=key)), ((0, key), (0, key)))

    def test_join_is_the_least_label_that_holds_both(self):
        """The one that holds both of them, and of these the one that holds the fewest integers."""
        window = range(-20, 21)
        every = [(0, rest) for rest in window]
        every += [(modulus, rest) for modulus in range(1, 21) for rest in range(modulus)]
        holding = {label: held(label, window) for label in every}
        for one in LABELS:
            for other in LABELS:
                both = holding[one] | holding[other]
                least = min((label for label in every if both <= holding[label]), key=lambda x: len(holding[x]))
                self.assertEqual(self.kind.join(one, other), least)

    def test_join_by_divisors(self):
        for one, other, wanted in [
            ((0, 5), (0, 5), (0, 5)), ((0, -5), (0, -5), (0, -5)), ((0, 0), (0, 0), (0, 0)), ((0, 5), (0, 6), (1, 0)),
            ((0, -5), (0, 5), (10, 5)), ((0, -7), (0, -4), (3, 2)), ((0, 3), (0, 0), (3, 0)), ((6, 4), (6, 4), (6, 4)),
            ((6, 4), (0, 10), (6, 4)), ((6, 4), (0, 12), (2, 0)), ((0, -8), (6, 4), (6, 4)), ((6, 1), (4, 3), (2, 1)),
            ((1, 0), (0, 9), (1, 0)), ((6, 5), (9, 2), (3, 2)), ((0, 0), (0, -9), (9, 0)), ((5, 0), (0, -5), (5, 0)),
        ]:
            self.assertEqual((self.kind.join(one, other), self.kind.join(other=other, one=one)), (wanted, wanted))
            self.assertEqual(self.kind.join(other, one), wanted)

    def test_join_of_great_numbers(self):
        step = 3 ** 200 * 7
        for one, other in [((0, BIG), (0, BIG + step)), ((step * 4, 5), (0, 5 - step * 6)), ((0, -BIG), (step, 1)),
                           ((0, BIG), (0, BIG)), ((0, BIG), (0, -BIG)), ((2 * BIG, BIG), (BIG, 1))]:
            divisor = math.gcd(one[0], other[0], one[1] - other[1])
            wanted = (divisor, one[1] % divisor) if divisor else (0, one[1])
            self.assertEqual(self.kind.join(one, other), wanted)
        self.assertEqual(self.kind.join((0, BIG), (0, BIG + step)), (step, BIG % step))

    def test_consistent_against_a_window(self):
        for label in LABELS:
            for question in QUESTIONS:
                wanted = bool(held(label) & held(question))
                self.assertIs(self.kind.consistent(label, question), wanted)
        self.assertIs(self.kind.consistent(question=(4, 3), label=(0, -1)), True)

    def test_consistent_of_great_numbers(self):
        self.assertIs(self.kind.consistent((0, BIG), (BIG - 1, 1)), True)
        self.assertIs(self.kind.consistent((0, -BIG), (BIG - 1, BIG - 2)), True)
        self.assertIs(self.kind.consistent((0, BIG), (BIG - 1, 2)), False)
        self.assertIs(self.kind.consistent((6 * BIG, 4), (9 * BIG, 3 * BIG + 4)), True)
        self.assertIs(self.kind.consistent((6 * BIG, 4), (9 * BIG, 2 * BIG + 4)), False)

    def test_matches(self):
        for question in QUESTIONS:
            for key in range(-20, 21):
                self.assertIs(self.kind.matches(key, question), key in held(question))
        self.assertIs(self.kind.matches(key=-BIG, question=(BIG + 1, 1)), True)

    def test_penalty(self):
        for label in LABELS:
            for key in range(-20, 21):
                self.assertEqual(self.kind.penalty(label, key), 0 if key in held(label) else 1)
        self.assertEqual([self.kind.penalty(label=(0, BIG), key=BIG), self.kind.penalty((0, BIG), -BIG)], [0, 1])

    def test_sides(self):
        for many in range(31):
            wanted = [0] * (many // 2) + [1] * (many - many // 2)
            self.assertEqual(self.kind.sides([(0, -at) for at in range(many)]), wanted)
            self.assertEqual(self.kind.sides(labels=[(5, 1)] * many), wanted)
