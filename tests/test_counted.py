"""[3.5] Functions whose calls are counted."""

from checks import Checks
from sample_kinds import odd_things

from kindgrove.counted import Counted
from kindgrove.errors import BadValue
from kindgrove.grids import Grid


class CountedTest(Checks):

    def test_two_arguments(self):
        asked = []
        counted = Counted(lambda one, other: asked.append((one, other)) or f"{one} {other}")
        self.assertEqual(counted.calls, 0)
        self.assertEqual([counted(1, 2), counted("a", None), counted(1, 2)], ["1 2", "a None", "1 2"])
        self.assertEqual((counted.calls, asked), (3, [(1, 2), ("a", None), (1, 2)]))

    def test_one_argument(self):
        asked = []
        counted = Counted(lambda one: asked.append(one) or [one], 1)
        self.assertEqual([counted(5), counted(None), counted((1, 2))], [[5], [None], [(1, 2)]])
        self.assertEqual((counted.calls, asked), (3, [5, None, (1, 2)]))

    def test_arguments_by_name(self):
        def noted(*told, **named):
            return told, named

        self.assertEqual(Counted(function=noted, arguments=1)(one=3), ((3,), {}))
        self.assertEqual(Counted(arguments=2, function=noted)(other=4, one=3), ((3, 4), {}))
        self.assertEqual(Counted(noted, 2)(3, other=None), ((3, None), {}))

    def test_none_is_passed_on(self):
        self.assertEqual(Counted(lambda one, other: (one, other))(None, None), (None, None))
        self.assertEqual(Counted(lambda one: (one,), 1)(None), (None,))

    def test_what_the_function_returns_is_returned(self):
        thing = object()
        self.assertIs(Counted(lambda one, other: thing)(1, 2), thing)
        self.assertIs(Counted(lambda one: thing, 1)(1), thing)

    def test_wrong_arguments(self):
        for wrong in [*odd_things(), 0, 3, -1, -2, 12]:
            self.fails(BadValue, lambda: Counted(len, wrong), value=wrong)
            self.fails(BadValue, lambda: Counted(function=len, arguments=wrong), value=wrong)

    def test_flags_and_other_equals_of_1_and_2_are_none(self):
        for wrong in (True, 1.0, 2.0, 1 + 0j, "1", "2", (1,), [2], b"1"):
            self.fails(BadValue, lambda: Counted(len, wrong), value=wrong)

    def test_calls_that_raise_count(self):
        class Odd(Exception):
            pass

        def fail(*told):
            raise Odd(told)

        for arguments in (1, 2):
            counted = Counted(fail, arguments)
            for many in (1, 2, 3):
                with self.assertRaises(Odd) as caught:
                    counted(*[7, 8][:arguments])
                self.assertEqual(caught.exception.args, ((7, 8)[:arguments],))
                self.assertEqual(counted.calls, many)

    def test_clear(self):
        counted = Counted(lambda one: one, 1)
        self.assertEqual((counted.clear(), counted.calls), (0, 0))
        for at in range(4):
            counted(at)
        self.assertEqual((counted.clear(), counted.calls, counted.clear()), (4, 0, 0))
        counted(1)
        self.assertEqual((counted.calls, counted.clear()), (1, 1))

    def test_clear_behind_an_error(self):
        counted = Counted(lambda one: 1 // one, 1)
        with self.assertRaises(ZeroDivisionError):
            counted(0)
        self.assertEqual((counted(1), counted.clear(), counted.calls), (1, 2, 0))

    def test_calls_is_a_property_that_cannot_be_set(self):
        counted = Counted(len, 1)
        with self.assertRaises(AttributeError):
            counted.calls = 3
        self.assertIsInstance(Counted.calls, property)

    def test_each_object_counts_for_itself(self):
        one = Counted(lambda thing: thing, 1)
        other = Counted(one, 1)
        other(1)
        one(2)
        self.assertEqual((one.calls, other.calls), (2, 1))

    def test_counted_grid(self):
        grid = Grid("zz")
        grid["a", 1] = "b"
        counted = Counted(grid)
        self.assertEqual([counted("a", 1), counted("a", 2)], ["b", "zz"])
        self.fails(BadValue, lambda: counted(True, 2), value=True)
        self.assertEqual((counted.calls, grid.places()), (3, [("a", 1)]))

    def test_counted_that_is_false_itself(self):
        self.assertIs(Counted(Grid())(1, 2), False)
