"""[5.4] The shape of a tree in which a recipe's term stands."""

import random
import time

from checks import Checks
from model_verdicts import leaves_of, plain_value
from sample_kinds import Texts, odd_things
from test_recipes import SHARED, chain, doubling

from kindgrove.errors import BadRecipe, TooLarge
from kindgrove.recipes import rows, shape_of, value
from kindgrove.trees import Tree


def height_of(shape):
    return 1 + height_of(shape[0]) if isinstance(shape[0], list) else 1


def lists_in(shape):
    return [shape] + [inner for part in shape if isinstance(part, list) for inner in lists_in(part)]


def random_recipe(chance, many):
    steps = [("own", chance.randrange(9))]
    while len(steps) < many:
        if chance.randrange(3):
            steps.append(("join", chance.randrange(len(steps)), chance.randrange(len(steps))))
        else:
            steps.append(("own", chance.randrange(9)))
    return tuple(steps)


class ShapeTest(Checks):

    def test_own(self):
        self.assertEqual(shape_of((("own", 5),)), [[5]])
        self.assertEqual(shape_of(recipe=(("own", 1), ("own", (None, "a")))), [[(None, "a")]])

    def test_joins_of_one_height(self):
        self.assertEqual(shape_of((("own", 5), ("own", 6), ("join", 0, 1))), [[[5], [6]]])
        self.assertEqual(shape_of((("own", 5), ("join", 0, 0), ("join", 1, 1))), [[[[5], [5]], [[5], [5]]]])

    def test_the_lower_one_is_put_into_lists(self):
        steps = (("own", 1), ("own", 2), ("join", 0, 1))
        self.assertEqual(shape_of((*steps, ("join", 2, 0))), [[[[1], [2]], [[1]]]])
        self.assertEqual(shape_of((*steps, ("join", 0, 2))), [[[[1]], [[1], [2]]]])
        self.assertEqual(shape_of((*steps, ("join", 2, 0), ("join", 1, 3))), [[[[[2]]], [[[1], [2]], [[1]]]]])
        self.assertEqual(shape_of(SHARED), [[[[[1], [2]], [[1]]], [[[1], [2]], [[1]]]]])

    def test_random_recipes(self):
        chance = random.Random(5)
        for _ in range(300):
            recipe = random_recipe(chance, chance.randrange(1, 14))
            if rows(recipe) <= 300:
                shape = shape_of(recipe)
                tree = Tree.packed(Texts(), shape, most=2)
                self.assertEqual([tree.key_of(number) for number in tree.numbers()], leaves_of(recipe))
                word, entries = tree.view()
                self.assertEqual((word, len(entries), entries[0][0]), ("node", 1, value(Texts(), recipe)))
                self.assertEqual(entries[0][0], plain_value(Texts(), recipe))
                self.assertEqual(tree.height, height_of(shape))

    def test_lists_are_new_at_each_place(self):
        shape = shape_of(doubling(6))
        self.assertEqual(len({id(part) for part in lists_in(shape)}), len(lists_in(shape)))
        shape[0][0].clear()
        self.assertEqual(len(lists_in(shape_of(doubling(6)))), 64)


class TooLargeTest(Checks):

    def test_five_hundred_rows(self):
        # 500 = 4 * 125 as sums of powers of two: 256 + 128 + 64 + 32 + 16 + 4.
        powers = doubling(9)
        steps = [*powers, ("join", 8, 7), ("join", 9, 6), ("join", 10, 5), ("join", 11, 4), ("join", 12, 2)]
        self.assertEqual(rows(tuple(steps)), 500)
        self.assertEqual(len(Tree.packed(Texts(), shape_of(tuple(steps)))), 500)
        self.fails(TooLarge, lambda: shape_of((*steps, ("join", 13, 0))))
        self.fails(TooLarge, lambda: shape_of((*steps, ("join", 13, 13))))

    def test_a_height_of_sixty(self):
        for many, height in ((1, 2), (3, 3), (5, 4), (115, 59), (117, 60)):
            recipe = chain(many)
            self.assertEqual(height_of(shape_of(recipe)), height)
            self.assertEqual(rows(recipe), many // 2 + 1)
        self.assertEqual(Tree.packed(Texts(), shape_of(chain(117))).height, 60)
        self.fails(TooLarge, lambda: shape_of(chain(119)))
        self.fails(TooLarge, lambda: shape_of(chain(399)))

    def test_what_the_last_step_does_not_use_does_not_count(self):
        for unused in (doubling(400)[:399], chain(399)):
            recipe = (*unused, ("own", "last"))
            self.assertEqual(shape_of(recipe), [[["last"]][0]])
        recipe = (*doubling(398), ("own", "a"), ("join", 1, 398))
        self.assertEqual(shape_of(recipe), [[[[7], [7]], [["a"]]]])

    def test_huge_rows_are_answered_soon(self):
        started = time.perf_counter()
        self.fails(TooLarge, lambda: shape_of(doubling(400)))
        self.fails(TooLarge, lambda: shape_of(doubling(58)))
        self.fails(TooLarge, lambda: shape_of(doubling(10)))
        self.assertEqual(len(lists_in(shape_of(doubling(9)))), 512)
        self.assertLess(time.perf_counter() - started, 2)

    def test_a_bad_recipe_comes_first(self):
        self.fails(BadRecipe, lambda: shape_of((*doubling(399), ("join", 0, 399))), at=399)
        for thing in odd_things():
            if not isinstance(thing, tuple):
                self.fails(BadRecipe, lambda: shape_of(thing), at=-1)
