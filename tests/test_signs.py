"""[3.11] Signs, worked out here with sets of the numbers of bits."""

import itertools
import random

from checks import Checks
from sample_kinds import odd_things

from kindgrove.errors import BadValue
from kindgrove.kinds import Kind, Measured
from kindgrove.rests import Signs

BIG = 10 ** 399
WIDTHS = [1, 2, 3, 8, 59, 60]


def bits_of(number):
    """The numbers of the bits that are set."""
    return {at for at, sign in enumerate(reversed(f"{number:b}")) if sign == "1"}


def some_key(chance, many=4):
    numbers = [chance.choice([chance.randint(-9, 9), chance.randint(-200, 200), BIG - chance.randint(0, 99)])
               for _ in range(chance.randint(0, many))]
    return tuple(numbers + numbers[:chance.randint(0, 2)])


class SignsTest(Checks):

    def cases(self):
        chance = random.Random(10)
        for width in WIDTHS:
            for _ in range(60):
                yield Signs(width), some_key(chance), some_key(chance, 2)

    def label(self, kind, key):
        return sum(2 ** at for at in {number % kind.width for number in key})

    def test_width(self):
        self.assertEqual([Signs(width).width for width in range(1, 61)], list(range(1, 61)))
        self.assertEqual([Signs().width, Signs(width=3).width], [8, 3])
        self.assertTrue(isinstance(Signs(), Kind))
        self.assertFalse(isinstance(Signs(), Measured))
        with self.assertRaises(AttributeError):
            Signs().width = 3

    def test_wrong_widths(self):
        for wrong in [*odd_things(), 0, 61, -8, 1000, True, False, "8", 8.0, (8,), [8]]:
            self.fails(BadValue, lambda: Signs(wrong), value=wrong)
            self.fails(BadValue, lambda: Signs(width=wrong), value=wrong)

    def test_example(self):
        self.assertEqual(Signs().own((1, 9, 2)), 6)

    def test_own(self):
        for kind, key, _ in self.cases():
            wanted = self.label(kind, key)
            self.assertEqual((kind.own(key), kind.own(key=key)), (wanted, wanted))
            self.assertEqual((kind.own(key[::-1]), kind.own(key + key)), (wanted, wanted))
        self.assertEqual([Signs(width).own(()) for width in WIDTHS], [0] * 6)

    def test_signs_below_nought(self):
        self.assertEqual([Signs(8).own((number,)) for number in (-1, -8, -9, -16, 7)], [128, 1, 128, 1, 128])
        self.assertEqual([Signs(60).own((-1,)), Signs(1).own((-5,)), Signs(3).own((-BIG,))],
                         [2 ** 59, 1, 2 ** (-BIG % 3)])

    def test_join(self):
        for kind, one, other in self.cases():
            first, second = kind.own(one), kind.own(other)
            wanted = sum(2 ** at for at in bits_of(first) | bits_of(second))
            self.assertEqual((kind.join(first, second), kind.join(other=second, one=first)), (wanted, wanted))

    def test_consistent(self):
        for kind, key, question in self.cases():
            for asked in (question, key[:1], key + question, (), key[::-1]):
                wanted = bits_of(self.label(kind, asked)) <= bits_of(self.label(kind, key))
                self.assertIs(kind.consistent(kind.own(key), asked), wanted)
                self.assertIs(kind.consistent(question=asked, label=kind.own(key)), wanted)

    def test_consistent_where_no_key_matches(self):
        self.assertIs(Signs().consistent(Signs().own((1,)), (9,)), True)
        self.assertIs(Signs().matches((1,), (9,)), False)

    def test_matches(self):
        for kind, key, question in self.cases():
            for asked in (question, key[:2], key[1:] + key[:1], (), key + (10 ** 6,), key * 3):
                self.assertIs(kind.matches(key, asked), set(asked) <= set(key))
        self.assertIs(Signs().matches(question=(2, 1), key=(1, 2, 3)), True)
        self.assertIs(Signs().matches((1, 2), (1, 9)), False)

    def test_penalty(self):
        for kind, one, other in self.cases():
            label = kind.own(one)
            wanted = len(bits_of(label) | bits_of(self.label(kind, other))) - len(bits_of(label))
            self.assertEqual((kind.penalty(label, other), kind.penalty(key=other, label=label)), (wanted, wanted))

    def test_all_small_labels(self):
        kind = Signs(3)
        for label, key in itertools.product(range(8), itertools.product(range(3), repeat=2)):
            wanted = len(bits_of(label) | set(key)) - len(bits_of(label))
            self.assertEqual(kind.penalty(label, key), wanted)
            self.assertIs(kind.consistent(label, key), set(key) <= bits_of(label))

    def test_sides(self):
        for many in range(31):
            wanted = [0] * (many // 2) + [1] * (many - many // 2)
            self.assertEqual(Signs().sides(list(range(many, 0, -1))), wanted)
            self.assertEqual(Signs().sides(labels=[3] * many), wanted)
