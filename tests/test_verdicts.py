"""[6.1] to [6.3] Whether a kind is exact, misses, and tables."""

import itertools
import random

from checks import Checks
from model_reach import plain_reach, terms
from model_verdicts import judged_cases, leaves_of, plain_bad, plain_miss_rows
from sample_kinds import Noting, Replacing, Texts, odd_things
from test_reach import ready_cases

from kindgrove.both import Both, Coarse
from kindgrove.errors import NotGiven
from kindgrove.grids import Grid
from kindgrove.kinds import Calls, Kind
from kindgrove.ranges import Boxes, Ranges
from kindgrove.reach import Reach
from kindgrove.recipes import key_at, rows, shape_of, value
from kindgrove.rests import Rests, Signs, Stems
from kindgrove.trees import Tree
from kindgrove.verdicts import is_exact, is_miss, is_table, miss


def exact_cases():
    """Kinds that [3.6] and [3.14] call exact, with keys and questions."""
    yield Ranges(), [5, 1, 9, -3], [(0, 4), (9, 9), (7, 6), (-10, 10)]
    yield Boxes(2), [((0, 1), (5, 6)), ((2, 3), (-4, 4))], [((0, 0), (0, 9)), ((1, 2), (4, 5)), ((5, 5), (5, 5))]
    yield Rests(), [7, 19, 12, -5], [(8, 3), (1, 0), (5, 2), (12, 7)]
    yield Stems(), ["abc", "abd", "b", ""], ["", "a", "ab", "abc", "c", "abcd"]
    yield Signs(4), [(1, 2), (9,), (), (-1, 30)], [(), (1,), (9, 30), (2, 1, 2)]
    yield Both(Ranges(), Stems()), [(1, "ab"), (5, "a"), (3, "b")], [((0, 4), "a"), ((5, 9), ""), ((3, 1), "b")]
    coarse = Coarse(Ranges(), lambda label: (label[0] // 5 * 5, -(-label[1] // 5) * 5))
    yield coarse, [3, 14, 8, -2], [(0, 2), (11, 12), (14, 14)]


def lossy_cases():
    """Kinds that miss rows."""
    stems = Stems()
    yield (Calls(own=stems.own, join=Grid("zz"), consistent=stems.consistent, matches=stems.matches), ["ab", "b"],
           ["a", "b", "z"])
    yield Coarse(Ranges(), lambda label: (label[0], min(label[1], label[0] + 3))), [1, 3, 6, 9], [(6, 9), (9, 9)]
    yield Coarse(Rests(), lambda label: (label[0], label[1] // 2 * 2)), [3, 5, 9], [(2, 1), (4, 1)]


class ExactTest(Checks):

    def test_example(self):
        kind, _, _ = next(lossy_cases())
        self.assertEqual([is_exact(kind, ["ab"], ["a"]), is_exact(kind, ["ab"], ["", "b"])], [False, True])

    def test_ready_kinds(self):
        for kind, keys, questions in exact_cases():
            self.assertIs(is_exact(kind, keys, questions), True)
            self.assertIs(is_exact(questions=tuple(questions), keys=tuple(keys * 2), kind=kind), True)
            self.assertIsNone(miss(kind, keys, questions))

    def test_lossy_kinds(self):
        for kind, keys, questions in lossy_cases():
            self.assertIs(is_exact(kind, keys, questions), False)

    def test_against_all_pairs(self):
        found = set()
        for kind, keys, questions in judged_cases(160):
            wanted = not plain_bad(kind, keys, questions)
            self.assertIs(is_exact(kind, keys, questions), wanted)
            self.assertIs(is_exact(kind, keys[::-1], questions + questions), wanted)
            found.add(wanted)
        self.assertEqual(found, {True, False})

    def test_nothing_given(self):
        self.assertIs(is_exact(Kind(), [], []), True)
        self.assertIs(is_exact(Kind(), (), [1, 2]), True)
        self.assertIs(is_exact(Calls(own=abs, join=max, consistent=None, matches=None), [1, 2], []), True)
        self.assertIsNone(miss(Kind(), [], [1]))

    def test_one_key(self):
        kind = Calls(own=lambda key: 0, join=lambda one, other: 1, consistent=lambda label, _: label == 0,
                     matches=lambda key, question: key == question)
        self.assertIs(is_exact(kind, [5], [5]), False)
        self.assertIs(is_exact(kind, [5], [6]), True)
        self.assertEqual(rows(miss(kind, [5], [5])[0]), 2)

    def test_pairs_that_only_the_other_side_has(self):
        """A key may vanish from one side of a join: pairs, not labels alone, decide."""
        kind = Calls(own=lambda key: key, join=lambda one, other: one, consistent=lambda label, question: label
                     == question, matches=lambda key, question: key == question)
        self.assertIs(is_exact(kind, ["a"], ["a", "b"]), True)
        self.assertIs(is_exact(kind, ["a", "b"], ["a"]), False)
        recipe, way, question = miss(kind, ["a", "b"], ["a"])
        self.assertEqual((rows(recipe), question, key_at(recipe, way), value(kind, recipe)), (2, "a", "a", "b"))

    def test_not_given(self):
        for name in ("own", "join", "consistent", "matches"):
            class Lacking(Ranges):
                pass

            setattr(Lacking, name, getattr(Kind, name))
            self.fails(NotGiven, lambda: is_exact(Lacking(), [1], [(1, 1)]), name=name)
            self.fails(NotGiven, lambda: miss(Lacking(), [1], [(1, 1)]), name=name)


class RuleTest(Checks):

    def test_rule_stands_in_the_place_of_consistent(self):
        for kind, keys, questions in [*exact_cases(), *lossy_cases()]:
            noting = Noting(kind)
            self.assertIs(is_exact(noting, keys, questions, lambda label, question: True), True)
            self.assertIs(is_exact(noting, keys, questions, rule=Grid(True)), True)
            self.assertEqual(noting.named("consistent"), [])
            self.assertIs(is_exact(noting, keys, questions, Grid(False)), False)
            self.assertEqual(noting.named("consistent"), [])
            self.assertIs(is_exact(kind, keys, questions, None), is_exact(kind, keys, questions))

    def test_rule_of_a_kind_that_has_no_consistent(self):
        kind = Calls(own=lambda key: key, join=max, consistent=None, matches=lambda key, question: key >= question)
        self.assertIs(is_exact(kind, [1, 5, 3], [2, 4], lambda label, question: label >= question), True)
        self.assertIs(is_exact(kind, [1, 5, 3], [2, 4], lambda label, question: label > 3), False)

    def test_rules_against_all_pairs(self):
        chance = random.Random(3)
        for kind, keys, questions in judged_cases(40):
            for density in (0.5, 0.9, 0.99):
                rule = Grid()
                for label in plain_reach(kind, keys)[0]:
                    for question in questions:
                        rule[label, question] = chance.random() < density
                self.assertIs(is_exact(kind, keys, questions, rule), not plain_bad(kind, keys, questions, rule))


class MissTest(Checks):

    def check(self, kind, keys, questions):
        found = miss(kind, keys, questions)
        wanted = plain_miss_rows(kind, keys, questions)
        if wanted is None:
            self.assertIsNone(found)
            return
        self.assertEqual((type(found), len(found)), (tuple, 3))
        recipe, way, question = found
        self.assertEqual(rows(recipe), wanted)
        self.assertIs(is_miss(kind, keys, questions, found), True)
        self.assertTrue(all(step[1] in keys for step in recipe if step[0] == "own"))
        self.assertIn(question, questions)
        label, key = value(kind, recipe), key_at(recipe, way)
        self.assertTrue(kind.matches(key, question) and not kind.consistent(label, question))
        self.assertEqual(miss(kind, keys, questions), found)
        if wanted <= 100:
            self.check_tree(kind, recipe, way, question)

    def check_tree(self, kind, recipe, way, question):
        """The tree of the recipe's shape loses the row to which the way leads."""
        tree = Tree.packed(kind, shape_of(recipe))
        key = key_at(recipe, way)
        self.assertEqual(tree.opened(question), [()])
        self.assertEqual(list(tree.search(question)), [])
        self.assertIn(key, [tree.key_of(number) for number in tree.lost(question)])

    def test_arbitrary_kinds(self):
        for kind, keys, questions in judged_cases(160):
            self.check(kind, keys, questions)
            self.check(kind, tuple(keys[::-1]), tuple(questions + questions[:1]))

    def test_lossy_kinds(self):
        for kind, keys, questions in lossy_cases():
            self.assertIsNotNone(miss(kind, keys, questions))
            self.check(kind, keys, questions)

    def test_against_all_terms_of_few_rows(self):
        for kind, keys, questions in judged_cases(48):
            found = miss(kind, keys, questions)
            least = 9 if found is None else rows(found[0])
            for many, some in (terms(kind, keys, 6) if keys else {}).items():
                if many < least:
                    for label, leaves in some:
                        for key, question in itertools.product(leaves, questions):
                            self.assertTrue(kind.consistent(label, question) or not kind.matches(key, question))

    def test_no_tree_of_fewer_rows_misses_a_row(self):
        chance = random.Random(8)
        for kind, keys, questions in [*lossy_cases(), *judged_cases(30)]:
            found = miss(kind, keys, questions)
            most_rows = 12 if found is None else min(rows(found[0]) - 1, 12)
            for _ in range(10 if keys else 0):
                tree = Tree(kind, most=chance.randrange(2, 5))
                for _ in range(most_rows):
                    tree.put(chance.choice(keys))
                    if chance.randrange(4) == 0:
                        tree.drop(chance.choice(tree.numbers()))
                    if chance.randrange(4) == 0:
                        tree.tighten()
                self.assertEqual([tree.lost(question) for question in questions], [[] for _ in questions])

    def test_example(self):
        kind, _, _ = next(lossy_cases())
        recipe, way, question = miss(kind, ["ab"], ["a"])
        self.assertEqual((rows(recipe), question, shape_of(recipe)), (2, "a", [[["ab"], ["ab"]]]))
        lossy = Tree.packed(kind, shape_of(recipe))
        self.assertEqual([list(lossy.search("a")), lossy.lost("a")], [[], [0, 1]])

    def test_fewest_rows_of_a_pair_not_of_a_label(self):
        """The label 9 needs one row, but with the key that it loses it needs more."""
        kind = Calls(own=lambda key: key, join=lambda one, other: min(one + other, 9),
                     consistent=lambda label, question: label < 9, matches=lambda key, question: key == question)
        recipe, way, question = miss(kind, [9, 2], [2])
        self.assertEqual((rows(recipe), key_at(recipe, way), question), (2, 2, 2))
        self.assertEqual(rows(miss(kind, [2], [2])[0]), 5)

    def test_huge_misses(self):
        kind = Calls(own=lambda key: 0, join=lambda one, other: one + 1 if one == other < 150 else 0,
                     consistent=lambda label, question: label < 150, matches=lambda key, question: True)
        recipe, way, question = miss(kind, ["a", "b"], ["q"])
        self.assertEqual((rows(recipe), value(kind, recipe)), (2 ** 150, 150))
        self.assertIs(is_miss(kind, ["a", "b"], ["q"], (recipe, way, question)), True)


RANGES_SHUT = Replacing(Ranges(), {("consistent", ((1, 5), (4, 6))): False})
FOUND = ((("own", 1), ("own", 5), ("join", 0, 1)), (1,), (4, 6))


class IsMissTest(Checks):

    def judged(self, thing, kind=RANGES_SHUT, keys=(1, 5), questions=((4, 6), (9, 9))):
        found = is_miss(kind, list(keys), list(questions), thing)
        self.assertIs(is_miss(thing=thing, questions=questions, keys=keys, kind=kind), found)
        return found

    def test_misses(self):
        self.assertIs(self.judged(FOUND), True)
        longer = ((("own", 5), ("own", 1), ("join", 1, 0), ("own", 1), ("join", 3, 2)), (1, 1), (4, 6))
        self.assertIs(self.judged(longer), True)
        self.assertGreater(rows(longer[0]), rows(FOUND[0]))

    def test_whatever_object(self):
        for thing in odd_things():
            self.assertIs(self.judged(thing), False)
            self.assertIs(self.judged((thing, *FOUND[1:])), False)
            self.assertIs(self.judged((FOUND[0], thing, FOUND[2])), False)
            self.assertIs(self.judged((*FOUND[:2], thing)), False)
            self.assertIs(self.judged((*FOUND, thing)), False)
            self.assertIs(self.judged(((("own", 1), ("own", thing), ("join", 0, 1)), (1,), (4, 6))), False)
            self.assertIs(self.judged(((("own", 1), thing, ("join", 0, 1)), (1,), (4, 6))), False)

    def test_not_quite(self):
        recipe, way, question = FOUND
        ways = [[1], (0,), (1, 0), (), (True,), (2,)]
        wrong = [*[(recipe, way, question) for way in ways], list(FOUND), FOUND[:2], (list(recipe), way, question),
                 (recipe, way, [4, 6]), (recipe, way, (4, 7)), (recipe, way, (9, 9)), (recipe, way, (4.0, 6)),
                 (recipe[:2], (), question), ((("own", 1), ("own", 5), ("join", 0, True)), (1,), question),
                 ((("own", 1), ("own", 5.0), ("join", 0, 1)), (1,), question), ((), (), question)]
        for thing in wrong:
            self.assertIs(self.judged(thing), False)

    def test_other_keys(self):
        self.assertIs(self.judged(FOUND, keys=(1,)), False)
        self.assertIs(self.judged(FOUND, keys=(5, 7)), False)
        self.assertIs(self.judged(FOUND, keys=()), False)
        unused = ((("own", 7), ("own", 1), ("own", 5), ("join", 1, 2)), (1,), (4, 6))
        self.assertIs(self.judged(unused), False)
        self.assertIs(self.judged(unused, keys=(1, 5, 7)), True)

    def test_other_questions(self):
        self.assertIs(self.judged(FOUND, questions=((9, 9),)), False)
        self.assertIs(self.judged(FOUND, questions=()), False)

    def test_a_match_that_is_no_miss_and_a_miss_that_is_no_match(self):
        self.assertIs(self.judged(FOUND, kind=Ranges()), False)
        self.assertIs(self.judged((FOUND[0], (0,), (4, 6))), False)

    def test_labels_that_are_not_plain(self):
        for results in ({("own", (1,)): [1]}, {("own", (5,)): True}, {("join", ((1, 1), (5, 5))): [1, 5]}):
            self.assertIs(self.judged(FOUND, kind=Replacing(RANGES_SHUT, results)), False)
        kind = Replacing(RANGES_SHUT, {("own", (7,)): [7]})
        self.assertIs(self.judged(FOUND, kind=kind, keys=(1, 5, 7)), True)

    def test_more_than_two_hundred_labels(self):
        kind = Replacing(Texts(), {("consistent", ("(1 1)", 1)): False})
        self.assertIs(self.judged(((("own", 1), ("join", 0, 0)), (0,), 1), kind=kind, keys=(1,), questions=(1,)), True)

    def test_long_ways_and_recipes(self):
        recipe = (("own", 1), *[("join", at, at) for at in range(399)])
        kind = Calls(own=lambda key: 0, join=lambda one, other: 0, consistent=Grid(), matches=Grid(True))
        self.assertIs(self.judged((recipe, (0, 1, 1) * 133, (4, 6)), kind=kind), True)
        self.assertIs(self.judged((recipe, (0, 1, 1) * 134, (4, 6)), kind=kind), False)
        self.assertIs(self.judged(((*recipe, ("own", 1)), (), (4, 6)), kind=kind), False)


class TableTest(Checks):

    def test_reached_pairs(self):
        for kind, keys, questions in exact_cases():
            table = Reach(kind, keys).pairs()
            self.assertIs(is_table(kind, keys, questions, table), True)
            self.assertIs(is_table(kind, keys * 2, questions, (table + table)[::-1]), True)
            self.assertIs(is_table(thing=table, questions=questions, keys=keys, kind=kind), True)

    def test_one_pair_too_few(self):
        for kind, keys, questions in exact_cases():
            table = Reach(kind, keys).pairs()
            for at in range(len(table)):
                self.assertIs(is_table(kind, keys, questions, table[:at] + table[at + 1:]), False)

    def test_there_is_one_exactly_if_the_kind_is_exact(self):
        for kind, keys, questions in judged_cases(100):
            table = Reach(kind, keys).pairs()
            self.assertIs(is_table(kind, keys, questions, table), is_exact(kind, keys, questions))

    def test_one_pair_too_many(self):
        kind, keys, questions = Ranges(), [1, 5], [(4, 6)]
        table = Reach(kind, keys).pairs()
        for pair in (((0, 5), 1), ((1, 5), 9), ((1, 1), 5)):
            self.assertIs(is_table(kind, keys, questions, [*table, pair]), False)

    def test_larger_tables(self):
        """A closed table may have more than the reached pairs."""
        kind = Calls(own=lambda key: key, join=max, consistent=lambda label, question: label >= question,
                     matches=lambda key, question: key >= question)
        table = [(2, 2), (7, 2)]
        self.assertIs(is_table(kind, [2], [2], table), True)
        self.assertIs(is_table(kind, [2], [2], table[1:]), False)
        self.assertIs(is_table(kind, [2], [2], [*table, (1, 2)]), False)
        self.assertIs(is_table(kind, [2], [2], [(1, 2), *table[:1]]), False)
        every = [(label, 2) for label in range(2, 60)]
        self.assertIs(is_table(kind, [2], [2], every), True)

    def test_closed_on_both_sides_for_each_key(self):
        first = Calls(own=lambda key: key, join=lambda one, other: one, consistent=Grid(True), matches=Grid(True))
        last = Calls(own=lambda key: key, join=lambda one, other: other, consistent=Grid(True), matches=Grid(True))
        for kind in (first, last):
            self.assertIs(is_table(kind, ["a", "b"], [0], [("a", "a"), ("b", "b")]), False)
            self.assertIs(is_table(kind, ["a", "b"], [0], [("a", "a"), ("b", "b"), ("a", "b")]), False)
            self.assertIs(is_table(kind, ["a", "b"], [0], [("a", "a"), ("b", "b"), ("a", "b"), ("b", "a")]), True)

    def test_against_the_words(self):
        chance = random.Random(2)
        found = {True: 0, False: 0}
        for kind, keys, questions in judged_cases(120):
            table = Reach(kind, keys).pairs()
            labels = [label for label, _ in table]
            for _ in range(4):
                thing = [pair for pair in table if chance.randrange(12)]
                if labels and chance.randrange(2):
                    thing.append((chance.choice(labels), chance.choice([*keys, "none"])))
                wanted = self.plain_is_table(kind, keys, questions, thing)
                found[wanted] += 1
                self.assertIs(is_table(kind, keys, questions, thing), wanted)
        self.assertGreater(min(found.values()), 20)

    def plain_is_table(self, kind, keys, questions, thing):
        labels = [label for label, _ in thing]
        return (all(key in keys for _, key in thing) and all((kind.own(key), key) in thing for key in keys)
                and all((kind.join(label, other), key) in thing and (kind.join(other, label), key) in thing
                        for label, key in thing for other in labels)
                and all(kind.consistent(label, question) for label, key in thing for question in questions
                        if kind.matches(key, question)))

    def test_whatever_object(self):
        kind, keys, questions = Ranges(), [1, 5], [(4, 6)]
        table = Reach(kind, keys).pairs()
        for thing in [*odd_things(), tuple(table), table[0], {pair: 1 for pair in table}, set(table), iter(table)]:
            self.assertIs(is_table(kind, keys, questions, thing), False)
            self.assertIs(is_table(kind, keys, questions, [*table, thing]), thing == table[0])
            self.assertIs(is_table(kind, keys, questions, [(thing, 1)]), False)
            self.assertIs(is_table(kind, keys, questions, [*table, ((1, 1), thing)]), False)
            self.assertIs(is_table(kind, keys, questions, [*table, ((1, 1), 1, thing)]), False)
        self.assertIs(is_table(kind, keys, questions, [*table, [(1, 1), 1]]), False)
        self.assertIs(is_table(kind, keys, questions, [*table, ((1.0, 1), 1)]), False)
        self.assertIs(is_table(kind, keys, questions, [*table, ((1, 1), True)]), False)

    def test_nothing_given(self):
        self.assertIs(is_table(Kind(), [], [], []), True)
        self.assertIs(is_table(Kind(), (), [(1, 1)], []), True)
        self.assertIs(is_table(Ranges(), [], [], [((1, 1), 1)]), False)
        self.assertIs(is_table(Ranges(), [1], [], []), False)

    def test_labels_that_are_not_plain(self):
        table = Reach(Ranges(), [1, 5]).pairs()
        for results in ({("own", (1,)): [1]}, {("join", ((1, 1), (5, 5))): [1, 5]}, {("join", ((1, 5), (1, 5))): True}):
            self.assertIs(is_table(Replacing(Ranges(), results), [1, 5], [(4, 6)], table), False)

    def test_consistent_of_each_label(self):
        table = Reach(Ranges(), [1, 5]).pairs()
        self.assertIs(is_table(RANGES_SHUT, [1, 5], [(4, 6)], table), False)
        self.assertIs(is_table(RANGES_SHUT, [1, 5], [(4, 7)], table), True)
        self.assertIs(is_table(RANGES_SHUT, [1, 5], [], table), True)


class ReadyTest(Checks):

    def test_sixty_keys_and_questions(self):
        kind = Calls(own=lambda key: key, join=lambda one, other: (one * 7 + other * 3 + 1) % 200,
                     consistent=lambda label, question: label % 60 != question, matches=lambda key, question: key
                     == question)
        numbers = list(range(60))
        self.assertIs(is_exact(kind, numbers, numbers), False)
        self.assertIs(is_exact(kind, numbers, numbers, Grid(True)), True)
        self.assertEqual(rows(miss(kind, numbers, numbers)[0]), 1)
        open_kind = Calls(own=kind.own, join=kind.join, consistent=Grid(True), matches=kind.matches)
        self.assertIs(is_table(open_kind, numbers, numbers, Reach(kind, numbers).pairs()), True)

    def test_ready_kinds_with_their_own_questions(self):
        for kind, keys in ready_cases():
            if isinstance(kind, Stems):
                self.assertIs(is_exact(kind, keys, keys), True)

    def test_leaves_of_a_miss(self):
        for kind, keys, questions in lossy_cases():
            recipe, way, _ = miss(kind, keys, questions)
            self.assertIn(key_at(recipe, way), leaves_of(recipe))
