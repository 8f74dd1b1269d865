"""[3.10] Stems, worked out here by trying all beginnings."""

import itertools
import random

from checks import Checks
from test_ranges import halves

from kindgrove.kinds import Kind, Measured
from kindgrove.rests import Stems

WORDS = ["".join(signs) for many in range(4) for signs in itertools.product("ab", repeat=many)] + ["B", "abab", "a b"]
LONG = "ab" * 199


def beginnings(word):
    return {word[:many] for many in range(len(word) + 1)}


class StemsTest(Checks):

    def setUp(self):
        self.kind = Stems()

    def test_it_is_a_kind_without_distances(self):
        self.assertTrue(isinstance(self.kind, Kind))
        self.assertFalse(isinstance(self.kind, Measured))

    def test_own(self):
        for key in ["", "abc", LONG, "\n\0"]:
            self.assertEqual((self.kind.own(key), self.kind.own(key=key)), (key, key))

    def test_join(self):
        for one in WORDS:
            for other in WORDS:
                wanted = max(beginnings(one) & beginnings(other), key=len)
                self.assertEqual((self.kind.join(one, other), self.kind.join(other=other, one=one)), (wanted, wanted))

    def test_join_of_long_strings(self):
        self.assertEqual(self.kind.join(LONG + "x", LONG + "yx"), LONG)
        self.assertEqual([self.kind.join(LONG, LONG), self.kind.join(LONG, LONG + "a")], [LONG, LONG])
        self.assertEqual(self.kind.join("x" + LONG, LONG), "")

    def test_consistent(self):
        for label in WORDS:
            for question in WORDS:
                wanted = question in beginnings(label) or label in beginnings(question)
                self.assertIs(self.kind.consistent(label, question), wanted)
        self.assertIs(self.kind.consistent(question=LONG + "x", label=LONG), True)
        self.assertIs(self.kind.consistent(LONG + "y", LONG + "x"), False)
        self.assertIs(self.kind.consistent("", LONG), True)

    def test_matches(self):
        for key in WORDS:
            for question in WORDS:
                self.assertIs(self.kind.matches(key, question), question in beginnings(key))
        self.assertIs(self.kind.matches(question="ab", key="a"), False)

    def test_penalty(self):
        for label in WORDS:
            for key in WORDS:
                wanted = len(label) - max(map(len, beginnings(label) & beginnings(key)))
                self.assertEqual(self.kind.penalty(label, key), wanted)
        self.assertEqual(self.kind.penalty(key="aa", label=LONG), 397)

    def test_sides(self):
        chance = random.Random(9)
        for many in range(31):
            for words in (["a", "b"], WORDS, ["B", "a", "10", "9", " ", "~", ""], [LONG, LONG + "a", LONG[:-1]]):
                labels = [chance.choice(words) for _ in range(many)]
                self.assertEqual(self.kind.sides(labels), halves(labels))
                self.assertEqual(self.kind.sides(labels=tuple(labels)), halves(labels))

    def test_sides_at_the_edges(self):
        self.assertEqual([self.kind.sides([]), self.kind.sides(["z"])], [[], [1]])
        self.assertEqual(self.kind.sides(["b", "a"]), [1, 0])
        self.assertEqual(self.kind.sides(["a", "a", "a"]), [0, 1, 1])
        self.assertEqual(self.kind.sides(["ab", "a", "b", "B", "10", "9"]), [1, 1, 1, 0, 0, 0])
