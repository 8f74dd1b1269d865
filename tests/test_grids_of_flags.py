"""[2.4] Grids of flags: both, at least one, the contrary, and whether one is under another one."""

import itertools
import random

from checks import Checks

from kindgrove.grids import Grid

PARTS = [0, 9, 10, -1, "a", "A", None, (), (1, "b")]
EVERYWHERE = [(a, b) for a in PARTS for b in PARTS] + [("nothing", "stands here"), (77, 78)]


def some_grid(chance, default, many):
    grid = Grid(default)
    for _ in range(many):
        grid[chance.choice(PARTS), chance.choice(PARTS)] = chance.choice([True, False])
    return grid


def all_pairs():
    """Pairs of grids for all four pairs of defaults, with none, few and many places."""
    chance = random.Random(5)
    for one, other in itertools.product((False, True), repeat=2):
        for many, further in itertools.product((0, 3, 40, 150), repeat=2):
            yield some_grid(chance, one, many), some_grid(chance, other, further)


def values_of(grid):
    return [grid[place] for place in EVERYWHERE]


def told(grid):
    """All that can be told of a grid."""
    return values_of(grid), grid.places(), len(grid)


class PlaceByPlaceTest(Checks):

    def check(self, grid, wanted, default):
        """The grid has these values, and its places stand in ascending order of their repr."""
        self.assertIs(type(grid), Grid)
        self.assertEqual(values_of(grid), wanted)
        self.assertTrue(all(type(flag) is bool for flag in values_of(grid)))
        self.assertIs(grid["no", "place"], default)
        places = [place for place, flag in zip(EVERYWHERE, wanted) if flag != default]
        self.assertEqual(grid.places(), sorted(places, key=repr))
        self.assertEqual((len(grid), bool(grid)), (len(places), bool(places)))
        self.assertTrue(all(place in grid for place in places))

    def test_and(self):
        for one, other in all_pairs():
            before = told(one), told(other)
            wanted = [a and b for a, b in zip(values_of(one), values_of(other))]
            self.check(one & other, wanted, one["no", "place"] and other["no", "place"])
            self.assertEqual((told(one), told(other)), before)

    def test_or(self):
        for one, other in all_pairs():
            before = told(one), told(other)
            wanted = [a or b for a, b in zip(values_of(one), values_of(other))]
            self.check(one | other, wanted, one["no", "place"] or other["no", "place"])
            self.assertEqual((told(one), told(other)), before)

    def test_contrary(self):
        for one, _ in all_pairs():
            before = told(one)
            self.check(~one, [not a for a in values_of(one)], not one["no", "place"])
            self.assertEqual(told(one), before)

    def test_or_in_place(self):
        for one, other in all_pairs():
            wanted, default = values_of(one | other), (one | other)["no", "place"]
            before, same = told(other), one
            one |= other
            self.assertIs(one, same)
            self.check(one, wanted, default)
            self.assertEqual(told(other), before)

    def test_or_in_place_of_one_grid_twice(self):
        for one, _ in all_pairs():
            wanted, default, same = values_of(one), one["no", "place"], one
            one |= one
            self.assertIs(one, same)
            self.check(one, wanted, default)

    def test_under(self):
        for one, other in all_pairs():
            pairs = list(zip(values_of(one), values_of(other)))
            wanted = all(b for a, b in pairs if a)
            self.assertIs(one.under(other), wanted)
            self.assertIs(one.under(other=one | other), True)
            self.assertIs((one & other).under(other), True)
            self.assertIs(one.under(one), True)

    def test_under_where_nothing_stands(self):
        self.assertIs(Grid(True).under(Grid(False)), False)
        self.assertIs(Grid(False).under(Grid(True)), True)
        one, other = Grid(True), Grid(False)
        for place in EVERYWHERE:
            one[place] = False
            other[place] = True
        self.assertIs(one.under(other), False)
        self.assertIs(other.under(one), False)

    def test_under_at_one_place(self):
        one, other = Grid(), Grid()
        one[1, 2] = True
        self.assertEqual((one.under(other), other.under(one)), (False, True))
        other[1, 2] = True
        self.assertEqual((one.under(other), other.under(one)), (True, True))
        self.assertEqual((one.under(Grid(True)), Grid(True).under(one), Grid(True).under(Grid(True))),
                         (True, False, True))
        hole = Grid(True)
        hole[1, 2] = False
        self.assertEqual((one.under(hole), hole.under(Grid(True)), Grid(True).under(hole)), (False, True, False))


class LawsTest(Checks):

    def test_twice_the_contrary(self):
        for one, _ in all_pairs():
            self.assertEqual(~~one, one)
            self.assertNotEqual(~one, one)
            self.assertEqual((~~one).places(), sorted(one.places(), key=repr))

    def test_both_contraries(self):
        for one, other in all_pairs():
            self.assertEqual(~(one & other), ~one | ~other)
            self.assertEqual(~(one | other), ~one & ~other)
            self.assertEqual(one & other, other & one)
            self.assertEqual((one | other).places(), (other | one).places())

    def test_with_itself(self):
        for one, _ in all_pairs():
            self.assertEqual((one & one, one | one), (one, one))
            self.assertEqual((one & ~one, one | ~one), (Grid(False), Grid(True)))

    def test_places_that_fall_back_to_the_default_do_not_stand(self):
        one, other = Grid(), Grid()
        one[1, 2] = other[3, 4] = True
        self.assertEqual((one & other).places(), [])
        holes = ~one | ~other
        self.assertEqual((holes.places(), holes[1, 2]), ([], True))

    def test_order_by_repr(self):
        grid = Grid()
        for place in [("b", 1), (9, 1), (None, 2), (10, 1), ("a", 3), ((), 0), (-1, 5)]:
            grid[place] = True
        wanted = [("a", 3), ("b", 1), ((), 0), (-1, 5), (10, 1), (9, 1), (None, 2)]
        self.assertEqual((grid | Grid()).places(), wanted)
        self.assertEqual((~grid).places(), wanted)
        self.assertEqual((grid & Grid(True)).places(), wanted)
        self.assertEqual(grid.places()[0], ("b", 1))
        grid |= Grid()
        self.assertEqual(grid.places(), wanted)

    def test_new_grids_go_their_own_way(self):
        one, other = Grid(), Grid()
        one[1, 2] = True
        for make in (lambda: one & one, lambda: one | other, lambda: other | one, lambda: ~~one):
            fresh = make()
            fresh[5, 6] = True
            fresh[1, 2] = False
            self.assertEqual((one.places(), other.places()), ([(1, 2)], []))
        same = one
        one |= other
        one[0, 0] = True
        self.assertEqual((same.places(), other.places()), ([(1, 2), (0, 0)], []))

    def test_places_set_behind_an_operator_come_last(self):
        one, other = Grid(), Grid()
        one[5, 5] = other[3, 3] = True
        one |= other
        one[1, 1] = True
        self.assertEqual(one.places(), [(3, 3), (5, 5), (1, 1)])
        one[3, 3] = False
        one[3, 3] = True
        self.assertEqual(one.places(), [(5, 5), (1, 1), (3, 3)])
