"""[2.1] to [2.3] Grids: their values, the places that stand, and which grids are equal."""

import random

from checks import Checks
from sample_kinds import odd_things

from kindgrove.errors import BadValue
from kindgrove.grids import Grid
from kindgrove.values import is_plain

PLACES = [(1, 2), (2, 1), ("a", None), ((), ((1, "b"),)), (None, 0), (-5, 10 ** 300), ((((1,),),), ((((2,),),),))]
NOT_PLAIN = [True, False, 1.0, b"a", [], [1], {}, set(), (True,), (1, [2]), ((((1,),),), 1.5), (((((1,),),),),), Grid()]


class DefaultTest(Checks):

    def test_left_out(self):
        self.assertIs(Grid()[1, 2], False)
        self.assertEqual((len(Grid()), bool(Grid()), Grid().places()), (0, False, []))

    def test_by_position_and_by_name(self):
        for default in [True, False, 0, 1, -3, "", "zz", None, (), (1, ("a", None))]:
            for grid in (Grid(default), Grid(default=default)):
                self.assertIs(grid[1, 2], default)
                self.assertIs(grid("a", None), default)
                self.assertEqual((len(grid), bool(grid), grid.places()), (0, False, []))

    def test_bad_defaults(self):
        for default in odd_things():
            if not is_plain(default) and not isinstance(default, bool):
                self.fails(BadValue, lambda: Grid(default), value=default)
                self.fails(BadValue, lambda: Grid(default=default), value=default)
        for default in [(True,), (0, False), (((((1,),),),),), [False], 0.0]:
            self.fails(BadValue, lambda: Grid(default), value=default)


class ValueTest(Checks):

    def test_grid_of_flags(self):
        for default in (True, False):
            grid = Grid(default)
            for place in PLACES:
                self.assertIs(grid[place], default)
                grid[place] = not default
                self.assertIs(grid[place], not default)
            self.assertEqual(grid.places(), PLACES)
            grid["a", None] = default
            self.assertIs(grid["a", None], default)
            self.assertEqual(grid.places(), PLACES[:2] + PLACES[3:])

    def test_grid_of_plain_values(self):
        for default in (0, None, "x", (1, 2)):
            grid = Grid(default)
            for at, place in enumerate(PLACES):
                grid[place] = (at, "value")
            self.assertEqual([grid[place] for place in PLACES], [(at, "value") for at in range(len(PLACES))])
            for worth in (5, -5, None, "", "y", (), ((1,), "z"), 10 ** 400):
                grid[1, 2] = worth
                self.assertIs(grid[1, 2], worth)
                self.assertIs(grid(1, 2), worth)

    def test_the_two_parts_of_a_place_are_not_exchanged(self):
        grid = Grid(0)
        grid[1, 2] = 5
        grid[2, 1] = 6
        self.assertEqual([grid[1, 2], grid[2, 1], grid(1, 2), grid(2, 1), grid[1, 1]], [5, 6, 5, 6, 0])

    def test_call_by_name(self):
        grid = Grid("zz")
        grid["a", 1] = "b"
        self.assertEqual([grid(one="a", other=1), grid(other="a", one=1), grid("a", other=1)], ["b", "zz", "b"])

    def test_equal_places_are_one_place(self):
        grid = Grid(0)
        grid[10 ** 30, "a" * 50] = 1
        grid[10 ** 29 * 10, "aa" * 25] = 2
        self.assertEqual((grid.places(), grid[10 ** 30, "a" * 50]), ([(10 ** 30, "a" * 50)], 2))

    def test_last_value_counts(self):
        grid = Grid(0)
        for worth in (3, 4, 0, 5):
            grid[1, 2] = worth
        self.assertEqual((grid[1, 2], len(grid)), (5, 1))

    def test_grids_do_not_share_places(self):
        one, other = Grid(), Grid()
        one[1, 2] = True
        self.assertEqual((other.places(), Grid().places()), ([], []))


class PlacesTest(Checks):

    def test_order_in_which_they_began_to_stand(self):
        grid = Grid(0)
        for place in ((9, 9), (1, 1), (5, 5)):
            grid[place] = 1
        grid[9, 9] = 2
        self.assertEqual(grid.places(), [(9, 9), (1, 1), (5, 5)])
        grid[9, 9] = 0
        self.assertEqual(grid.places(), [(1, 1), (5, 5)])
        grid[9, 9] = 3
        self.assertEqual(grid.places(), [(1, 1), (5, 5), (9, 9)])

    def test_the_default_makes_no_place_stand(self):
        for default in (False, True, 0, "", None, ()):
            grid = Grid(default)
            grid[1, 2] = default
            grid[1, 2] = default
            self.assertEqual((len(grid), bool(grid), grid.places(), (1, 2) in grid), (0, False, [], False))

    def test_len_bool_and_in(self):
        grid = Grid(7)
        self.assertIs(bool(grid), False)
        grid[1, 2] = 0
        self.assertEqual((len(grid), bool(grid), (1, 2) in grid, (2, 1) in grid), (1, True, True, False))
        grid[2, 1] = None
        self.assertEqual((len(grid), bool(grid), (2, 1) in grid), (2, True, True))
        grid[1, 2] = 7
        grid[2, 1] = 7
        self.assertEqual((len(grid), bool(grid), (2, 1) in grid), (0, False, False))

    def test_a_new_list_each_time(self):
        grid = Grid()
        grid[1, 2] = True
        found = grid.places()
        found.clear()
        self.assertEqual((grid.places(), len(grid)), ([(1, 2)], 1))
        self.assertIsNot(grid.places(), grid.places())

    def test_in_for_any_object(self):
        grid = Grid()
        grid[0, 1] = True
        grid[1, 1] = True
        self.assertIs((1, 1) in grid, True)
        for thing in [*odd_things(), *NOT_PLAIN, (0,), (0, 1, 1), [0, 1], "01", (1, 0)]:
            self.assertIs(thing in grid, False)
            self.assertIs((thing, 1) in grid, thing == 0 and type(thing) is int)
        for place in [(True, 1), (False, 1), (1, True), (1.0, 1), (0, 1.0), ((0, 1), (1, 1)), (0, [1])]:
            self.assertIs(place in grid, False)

    def test_not_iterated_over(self):
        grid = Grid()
        grid[0, 0] = True
        for call in (iter, list, tuple, sorted, set, lambda thing: [*thing], lambda thing: [x for x in thing]):
            with self.assertRaises(TypeError):
                call(grid)

    def test_random_deeds(self):
        chance = random.Random(3)
        for default, values in ((False, [True, False]), (True, [True, False]), (0, [0, 1, 2, "a"]), (None, [None, 0])):
            grid, order, worths = Grid(default), [], {}
            for _ in range(300):
                place, worth = (chance.randrange(4), chance.choice("abc")), chance.choice(values)
                grid[place] = worth
                if worth == default and place in order:
                    order.remove(place)
                elif worth != default and place not in order:
                    order.append(place)
                worths[place] = worth
                self.assertEqual((grid.places(), len(grid), bool(grid)), (order, len(order), bool(order)))
            for place, worth in worths.items():
                self.assertIs(grid[place], worth)
                self.assertIs(place in grid, place in order)


class WrongValuesTest(Checks):

    def setUp(self):
        self.flags, self.plain = Grid(), Grid(0)
        self.flags[1, 2] = True
        self.plain[1, 2] = 5

    def tearDown(self):
        self.assertEqual((self.flags.places(), self.flags[1, 2]), ([(1, 2)], True))
        self.assertEqual((self.plain.places(), self.plain[1, 2]), ([(1, 2)], 5))

    def put(self, grid, at, worth):
        grid[at] = worth

    def test_what_is_no_tuple_of_two(self):
        for grid in (self.flags, self.plain):
            for at in [*odd_things(), (1,), (1, 2, 3), [1, 2], "ab", {1: 2, 3: 4}, slice(1, 2)]:
                if not (isinstance(at, tuple) and len(at) == 2):
                    self.fails(BadValue, lambda: grid[at], value=at)
                    self.fails(BadValue, lambda: self.put(grid, at, True), value=at)
                    self.fails(BadValue, lambda: self.put(grid, at, [9]), value=at)

    def test_parts_that_are_not_plain(self):
        for grid in (self.flags, self.plain):
            for part in NOT_PLAIN + [thing for thing in odd_things() if not is_plain(thing)]:
                for place in ((part, 2), (1, part), (part, part)):
                    self.fails(BadValue, lambda: grid[place], value=part)
                    self.fails(BadValue, lambda: grid(*place), value=part)
                    self.fails(BadValue, lambda: self.put(grid, place, grid[1, 2]), value=part)

    def test_the_first_part_ahead_of_the_second_one_and_of_the_value(self):
        for grid in (self.flags, self.plain):
            self.fails(BadValue, lambda: grid[[1], [2]], value=[1])
            self.fails(BadValue, lambda: grid([1], [2]), value=[1])
            self.fails(BadValue, lambda: self.put(grid, ([1], [2]), [3]), value=[1])
            self.fails(BadValue, lambda: self.put(grid, (1, [2]), [3]), value=[2])
            self.fails(BadValue, lambda: self.put(grid, (1, 2), [3]), value=[3])

    def test_an_integer_is_no_flag(self):
        for worth in (0, 1, -1, None, "", "True", (), (True,), 0.0, 1.0, [], [True], b"", Grid()):
            for at in ((1, 2), (7, 7)):
                self.fails(BadValue, lambda: self.put(self.flags, at, worth), value=worth)
                self.fails(BadValue, lambda: self.put(Grid(True), at, worth), value=worth)

    def test_a_flag_is_no_plain_value(self):
        for worth in [thing for thing in NOT_PLAIN + odd_things() if not is_plain(thing)]:
            for at in ((1, 2), (7, 7)):
                self.fails(BadValue, lambda: self.put(self.plain, at, worth), value=worth)
        for default in (1, None, "", ()):
            for flag in (True, False):
                self.fails(BadValue, lambda: self.put(Grid(default), (7, 7), flag), value=flag)

    def test_calls_take_two_arguments(self):
        for told in ((), (1,), (1, 2, 3), ((1, 2),)):
            with self.assertRaises(TypeError):
                self.flags(*told)


class EqualTest(Checks):

    def grid(self, default, *values):
        grid = Grid(default)
        for place, worth in values:
            grid[place] = worth
        return grid

    def check(self, wanted, one, other):
        self.assertIs(one == other, wanted)
        self.assertIs(other == one, wanted)
        self.assertIs(one != other, not wanted)

    def test_equal_values(self):
        one = self.grid(0, ((1, 2), 5), (("a", None), "b"))
        self.check(True, one, self.grid(0, (("a", None), "b"), ((1, 2), 5)))
        self.check(True, one, self.grid(0, (("a", None), "b"), ((3, 3), 9), ((1, 2), 5), ((3, 3), 0)))
        self.check(True, one, one)
        self.check(False, one, self.grid(0, (("a", None), "b")))
        self.check(False, one, self.grid(0, (("a", None), "b"), ((1, 2), 6)))
        self.check(False, one, self.grid(0, (("a", None), "b"), ((2, 1), 5)))
        self.check(False, one, self.grid(None, (("a", None), "b"), ((1, 2), 5)))

    def test_defaults(self):
        defaults = [False, True, 0, 1, None, "", (), "0", (0,), -1]
        for at, default in enumerate(defaults):
            for index, other in enumerate(defaults):
                self.check(at == index, Grid(default), Grid(other))

    def test_defaults_are_told_by_no_place(self):
        one, other = Grid(0), Grid(1)
        for a in range(3):
            for b in range(3):
                one[a, b] = other[a, b] = 7
        self.check(False, one, other)
        one, other = self.grid(False, ((1, 2), True)), self.grid(True, ((3, 4), False))
        self.check(False, one, other)

    def test_other_objects(self):
        for grid in (Grid(), Grid(0), Grid(None), self.grid(0, ((1, 2), 3))):
            for thing in odd_things():
                if not isinstance(thing, Grid):
                    self.check(False, grid, thing)
            self.check(False, grid, {(1, 2): 3})
            self.check(False, grid, [(1, 2)])

    def test_an_object_that_equals_all(self):
        class Any:
            def __eq__(self, other):
                return True

        self.assertIs(Grid() == Any(), False)
