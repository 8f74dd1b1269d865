"""[5.1], [5.2] Recipes: what is one, its value, its rows, and ways."""

from checks import Checks
from sample_kinds import Noting, Replacing, Texts, nested, odd_things

from kindgrove.errors import BadRecipe, BadValue, BadWay, NotGiven
from kindgrove.kinds import Calls, Kind
from kindgrove.ranges import Ranges
from kindgrove.recipes import key_at, rows, shape_of, value
from kindgrove.rests import Stems
from kindgrove.values import is_plain

SHARED = (("own", 1), ("own", 2), ("join", 0, 1), ("join", 2, 0), ("join", 3, 3))


def doubling(many):
    """A recipe with 2 ** (many - 1) rows."""
    return (("own", 7), *[("join", at, at) for at in range(many - 1)])


def chain(many):
    """A recipe with many steps, of which every second one is an own step that a join adds to those before."""
    steps = [("own", 0)]
    while len(steps) + 2 <= many:
        steps += [("own", len(steps)), ("join", len(steps) - 1, len(steps))]
    return tuple(steps)


def askers():
    """All functions that take a recipe, as calls with the recipe alone."""
    return [lambda recipe: value(Ranges(), recipe), rows, lambda recipe: key_at(recipe, ()), shape_of]


class ValueTest(Checks):

    def test_own_and_join(self):
        self.assertEqual(value(Texts(), (("own", 5),)), "5")
        self.assertEqual(value(Texts(), (("own", 5), ("own", 6), ("join", 0, 1))), "(5 6)")
        self.assertEqual(value(Texts(), (("own", 5), ("own", 6), ("join", 1, 0))), "(6 5)")
        self.assertEqual(value(Texts(), SHARED), "(((1 2) 1) ((1 2) 1))")
        self.assertEqual(value(recipe=SHARED, kind=Ranges()), (1, 2))

    def test_the_last_step_is_told(self):
        recipe = (("own", 5), ("own", 6), ("join", 0, 1), ("own", 9))
        self.assertEqual((value(Texts(), recipe), rows(recipe), key_at(recipe, ())), ("9", 1, 9))

    def test_keys_of_each_kind(self):
        for key in (None, "", "own", (), (1, ("a", (None, ((),)))), -10 ** 300):
            recipe = (("own", key),)
            self.assertEqual((value(Calls(own=lambda told: told, join=None, consistent=None, matches=None), recipe),
                              key_at(recipe, ())), (key, key))

    def test_four_hundred_steps(self):
        recipe = chain(399) + (("join", 0, 398),)
        self.assertEqual((len(recipe), rows(recipe), value(Ranges(), recipe)), (400, 201, (0, 397)))
        self.assertEqual(rows(doubling(400)), 2 ** 399)
        self.assertEqual(value(Ranges(), doubling(400)), (7, 7))

    def test_functions_are_called_for_each_step(self):
        kind = Noting(Stems())
        self.assertEqual(value(kind, (("own", "ab"), ("own", "ac"), ("join", 0, 1))), "a")
        self.assertLessEqual(kind.names(), {"own", "join"})

    def test_nothing_is_asked_by_the_others(self):
        self.assertEqual((rows(SHARED), key_at(SHARED, (0, 0, 1)), shape_of(SHARED)[0][0][0]), (6, 2, [[1], [2]]))

    def test_what_is_not_given_comes_through(self):
        self.fails(NotGiven, lambda: value(Kind(), SHARED), name="own")


class RowsTest(Checks):

    def test_rows(self):
        self.assertEqual(rows((("own", 5),)), 1)
        self.assertEqual(rows(recipe=SHARED), 6)
        self.assertEqual([rows(SHARED[:many]) for many in range(1, 6)], [1, 1, 2, 3, 6])
        self.assertEqual(rows(doubling(41)), 2 ** 40)


class BadRecipeTest(Checks):

    def all_fail(self, recipe, at):
        for ask in askers():
            self.fails(BadRecipe, lambda: ask(recipe), at=at)

    def test_what_is_no_tuple_of_steps(self):
        for thing in [*odd_things(), [("own", 1)], "own", ("own", 1), list(SHARED), {0: ("own", 1)}]:
            at = 0 if isinstance(thing, tuple) and thing else -1
            self.all_fail(thing, at)

    def test_too_few_and_too_many_steps(self):
        self.all_fail((), -1)
        self.all_fail(doubling(401), -1)
        self.all_fail((("own", 1),) * 401, -1)
        self.all_fail((None,) * 401, -1)
        self.all_fail((None,) * 400, 0)
        self.assertEqual(rows((("own", 1),) * 400), 1)

    def test_steps_that_are_none(self):
        steps = [*odd_things(), ["own", 1], ("own",), ("own", 1, 2), ("Own", 1), ("join", 0), ("join", 0, 0, 0),
                 ("join",), "own", ("own", [1]), ("own", True), ("own", 1.0), ("own", (1, (True,))), (b"own", 1),
                 (("own", 1),), (1, "own"), ("", 1), ("own", b"a"), ["join", 0, 0], ("Join", 0, 0),
                 ("joined", 0, 0), ("", 0, 0)]
        for step in steps:
            for many in (0, 1, 5):
                self.all_fail((("own", 1),) * many + (step, None), many)

    def test_keys_that_are_too_deep(self):
        self.assertEqual(rows((("own", ((((1,),),),)),)), 1)
        self.all_fail((("own", (((((1,),),),),)),), 0)
        deep = ()
        for _ in range(2000):
            deep = (deep,)
        self.all_fail((("own", 1), ("own", deep)), 1)
        self.all_fail((("own", nested(2000, 1)),), 0)

    def test_indexes(self):
        for wrong in [*odd_things(), -1, 2, 3, True, False, 1.0, "0", 10 ** 40, -2]:
            self.all_fail((("own", 1), ("own", 2), ("join", 0, wrong)), 2)
            self.all_fail((("own", 1), ("own", 2), ("join", wrong, 0)), 2)
        self.all_fail((("join", 0, 0),), 0)
        self.all_fail((("own", 1), ("join", 0, 1)), 1)
        self.all_fail((("own", 1), ("join", 0, 2), ("own", 2)), 1)

    def test_the_first_wrong_step_is_told(self):
        self.all_fail((("own", 1), ("join", 0, 1), "wrong"), 1)
        self.all_fail((("own", 1), "wrong", ("join", 0, 5)), 1)
        self.all_fail((("own", 1), ("join", 0, 0), ("own", [])), 2)

    def test_it_comes_ahead_of_other_errors(self):
        self.fails(BadRecipe, lambda: value(Kind(), (("own", 1), None)), at=1)
        self.fails(BadRecipe, lambda: value(Replacing(Ranges(), {("own", (1,)): []}), (("own", 1), ("own", []))), at=1)
        self.fails(BadRecipe, lambda: key_at((("own", 1), None), [0]), at=1)
        self.fails(BadRecipe, lambda: shape_of(doubling(50) + (None,)), at=50)


class BadLabelTest(Checks):

    def test_the_first_step_whose_value_is_not_plain(self):
        for wrong in odd_things():
            if not is_plain(wrong):
                kind = Replacing(Ranges(), {("own", (2,)): wrong})
                self.fails(BadValue, lambda: value(kind, SHARED), value=wrong)
                kind = Replacing(Ranges(), {("join", ((1, 2), (1, 1))): wrong})
                self.fails(BadValue, lambda: value(kind, SHARED), value=wrong)

    def test_a_step_that_is_not_used(self):
        kind = Replacing(Ranges(), {("own", (3,)): [3], ("join", ((1, 1), (2, 2))): [1, 2]})
        self.fails(BadValue, lambda: value(kind, (("own", 1), ("own", 3), ("own", 4))), value=[3])
        self.fails(BadValue, lambda: value(kind, (("own", 1), ("own", 2), ("join", 0, 1), ("own", 4))), value=[1, 2])
        self.assertEqual(value(kind, (("own", 1), ("own", 2), ("join", 1, 0), ("own", 4))), (4, 4))

    def test_the_first_one_is_told(self):
        kind = Replacing(Ranges(), {("own", (3,)): [3], ("own", (4,)): [4]})
        self.fails(BadValue, lambda: value(kind, (("own", 4), ("own", 3))), value=[4])
        self.fails(BadValue, lambda: value(kind, (("own", 1), ("own", 3), ("own", 4))), value=[3])

    def test_others_ask_no_labels(self):
        self.assertEqual(rows((("own", 3), ("join", 0, 0))), 2)
        self.assertEqual(key_at((("own", 3), ("join", 0, 0)), (1,)), 3)


class WayTest(Checks):

    def test_ways(self):
        self.assertEqual(key_at((("own", 5),), ()), 5)
        self.assertEqual(key_at(way=(), recipe=(("own", None),)), None)
        for way, key in (((0, 0, 0), 1), ((0, 0, 1), 2), ((0, 1), 1), ((1, 0, 0), 1), ((1, 0, 1), 2), ((1, 1), 1)):
            self.assertEqual(key_at(SHARED, way), key)
        self.assertEqual(key_at(doubling(400), (0, 1, 1) * 133), 7)

    def test_what_is_no_tuple(self):
        for thing in odd_things():
            if not isinstance(thing, tuple):
                self.fails(BadWay, lambda: key_at(SHARED, thing), at=-1)
                self.fails(BadWay, lambda: key_at((("own", 1),), thing), at=-1)

    def test_turns_that_are_none(self):
        for wrong in [*odd_things(), 2, -1, True, False, 1.0, "0", (0,)]:
            self.fails(BadWay, lambda: key_at(SHARED, (wrong, 0, 0)), at=0)
            self.fails(BadWay, lambda: key_at(SHARED, (0, wrong)), at=1)
            self.fails(BadWay, lambda: key_at(SHARED, (0, 0, wrong, 5)), at=2)

    def test_ends_too_early(self):
        for way in ((), (0,), (1,), (0, 0), (1, 0)):
            self.fails(BadWay, lambda: key_at(SHARED, way), at=len(way))

    def test_goes_on_behind_the_end(self):
        for way, at in (((0, 1, 0), 2), ((0, 0, 0, 0), 3), ((0, 0, 1, 1, 1), 3), ((1, 1, "x"), 2), ((1, 1, 0, "x"), 2)):
            self.fails(BadWay, lambda: key_at(SHARED, way), at=at)
        self.fails(BadWay, lambda: key_at((("own", 5),), (0,)), at=0)
        self.fails(BadWay, lambda: key_at((("own", 5),), (True,)), at=0)
        self.fails(BadWay, lambda: key_at((("own", 5),), (0,) * 100000), at=0)

    def test_the_first_wrong_turn_is_told(self):
        self.fails(BadWay, lambda: key_at(SHARED, (0, 2, 3)), at=1)
        self.fails(BadWay, lambda: key_at(SHARED, (0, 1, 0, 7)), at=2)
