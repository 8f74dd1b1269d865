"""[1.2] Plain values."""

import unittest

from kindgrove.values import is_int, is_plain


def tuples(depth, middle):
    for _ in range(depth):
        middle = (middle,)
    return middle


def lists(depth, middle):
    for _ in range(depth):
        middle = [middle]
    return middle


class IsPlainTest(unittest.TestCase):

    def check(self, wanted, things):
        for thing in things:
            with self.subTest(repr(thing)[:60]):
                self.assertIs(is_plain(thing), wanted)

    def test_plain_values(self):
        self.check(True, [0, -7, 10 ** 400, "", "word", "\n\0", None, (), (1,), (1, "a", None, ()), ((1, 2), ("a",))])

    def test_flags_are_no_integers(self):
        self.check(False, [True, False, (True,), (1, False), ((0, (1, True)),), (None, "a", (), True)])

    def test_lists_and_other_objects(self):
        self.check(False, [[], [1], {}, {1: 2}, set(), frozenset(), 1.0, 0.5, 1j, b"", bytearray(), range(3), object(),
                           int, len, Ellipsis, NotImplemented, lambda: 0, iter(()), ValueError(1), float("nan")])

    def test_other_objects_inside_tuples(self):
        self.check(False, [([],), (1, [2]), ((1, 2), (3, {})), (1.0,), (b"a", 1), ((((None, "a", 2.5),),),), (set(),)])

    def test_four_deep_and_five_deep(self):
        for middle in (0, "a", None):
            self.check(True, [tuples(depth, middle) for depth in range(5)])
            self.check(False, [tuples(depth, middle) for depth in range(5, 9)])

    def test_the_empty_tuple_is_not_deep(self):
        self.check(True, [tuples(depth, ()) for depth in range(5)])
        self.check(False, [tuples(depth, ()) for depth in range(5, 9)])

    def test_the_deepest_part_counts(self):
        self.check(True, [(1, tuples(3, 2), "a"), (tuples(3, ()), tuples(3, 5))])
        self.check(False, [(1, "a", tuples(4, 2)), (tuples(3, ()), tuples(4, ())), ((), ((), ((), ((), ((),), ()))))])

    def test_thousands_deep(self):
        for depth in (2000, 50000):
            self.assertIs(is_plain(tuples(depth, 1)), False)
            self.assertIs(is_plain(tuples(depth, ())), False)
            self.assertIs(is_plain(lists(depth, 1)), False)
            self.assertIs(is_plain((0, "a", lists(depth, 1))), False)
            self.assertIs(is_plain((0, "a", tuples(depth, 1))), False)

    def test_a_list_inside_itself(self):
        own = []
        own.append(own)
        self.check(False, [(own,)])
        self.assertIs(is_plain(own), False)

    def test_wide_tuples(self):
        self.assertIs(is_plain((1,) * 100000), True)
        self.assertIs(is_plain((1,) * 100000 + (True,)), False)

    def test_by_name(self):
        self.assertIs(is_plain(thing=3), True)

    def test_is_int(self):
        self.assertEqual([is_int(thing) for thing in (0, -5, 10 ** 50)], [True] * 3)
        self.assertEqual([is_int(thing) for thing in (True, False, 1.0, "1", None, (1,), [])], [False] * 7)


if __name__ == "__main__":
    unittest.main()
