"""[6.4] The sharpest rule and the mended one."""

import random

from checks import Checks
from model_reach import plain_reach
from model_verdicts import judged_cases, plain_sharpest
from sample_kinds import Noting
from test_verdicts import exact_cases, lossy_cases

from kindgrove.errors import NotGiven
from kindgrove.grids import Grid
from kindgrove.kinds import Calls, Kind
from kindgrove.ranges import Ranges
from kindgrove.trees import Tree
from kindgrove.verdicts import is_exact, mended, sharpest


def all_cases():
    return [*exact_cases(), *lossy_cases(), *judged_cases(120)]


def random_tree(chance, kind, keys):
    tree = Tree(kind, most=chance.randrange(2, 5))
    for _ in range(chance.randrange(12)):
        tree.put(chance.choice(keys))
    return tree


class RulesTest(Checks):

    def check_grid(self, grid, places):
        self.assertIs(type(grid), Grid)
        self.assertEqual(grid.places(), sorted(places, key=repr))
        self.assertEqual(len(grid), len(places))
        self.assertIs(grid["no label", "no question"], False)
        self.assertEqual({grid[place] for place in places} - {True}, set())
        grid["label", "question"] = True

    def test_sharpest_place_by_place(self):
        for kind, keys, questions in all_cases():
            self.check_grid(sharpest(kind, keys, questions), plain_sharpest(kind, keys, questions))
            self.assertEqual(sharpest(questions=tuple(questions * 2), keys=tuple(keys), kind=kind),
                             sharpest(kind, keys, questions))

    def test_mended_place_by_place(self):
        for kind, keys, questions in all_cases():
            labels = plain_reach(kind, keys)[0]
            places = {(label, question) for label in labels for question in questions
                      if kind.consistent(label, question)}
            places |= plain_sharpest(kind, keys, questions)
            self.check_grid(mended(kind, keys, questions), places)
            self.assertEqual(mended(questions=questions, keys=keys, kind=kind), mended(kind, keys, questions))

    def test_example(self):
        kind, _, _ = next(lossy_cases())
        self.assertEqual(mended(kind, ["ab"], ["a"]).places(), [("ab", "a"), ("zz", "a")])

    def test_order_of_places(self):
        kind = Calls(own=lambda key: key, join=Grid("zz"), consistent=Grid(True), matches=Grid(True))
        keys, questions = [10, 9, "b", None, (9,)], [100, 20, "a", ()]
        for rule in (sharpest, mended):
            places = rule(kind, keys, questions).places()
            self.assertEqual(places, sorted(((label, question) for label in [*keys, "zz"] for question in questions),
                                            key=repr))

    def test_both_are_exact_rules(self):
        for kind, keys, questions in all_cases():
            self.assertIs(is_exact(kind, keys, questions, sharpest(kind, keys, questions)), True)
            self.assertIs(is_exact(kind, keys, questions, mended(kind, keys, questions)), True)

    def test_one_place_less_is_not_exact(self):
        for kind, keys, questions in all_cases():
            rule = sharpest(kind, keys, questions)
            for place in rule.places():
                rule[place] = False
                self.assertIs(is_exact(kind, keys, questions, rule), False)
                rule[place] = True

    def test_sharpest_is_under_every_exact_rule(self):
        chance = random.Random(4)
        for kind, keys, questions in all_cases():
            least = sharpest(kind, keys, questions)
            for _ in range(3):
                rule = Grid(chance.random() < 0.5)
                for label in plain_reach(kind, keys)[0]:
                    for question in questions:
                        rule[label, question] = chance.random() < 0.7 or (label, question) in least
                self.assertIs(is_exact(kind, keys, questions, rule), True)
                self.assertIs(least.under(rule), True)
            self.assertIs(least.under(mended(kind, keys, questions)), True)

    def test_mended_has_nothing_more_if_the_kind_is_exact(self):
        for kind, keys, questions in all_cases():
            rule = mended(kind, keys, questions)
            more = [place for place in rule.places() if not kind.consistent(*place)]
            self.assertEqual(more == [], is_exact(kind, keys, questions))
            for place in more:
                rule[place] = False
                self.assertIs(is_exact(kind, keys, questions, rule), False)
                rule[place] = True

    def test_searches_by_the_sharpest_rule_open_least(self):
        chance = random.Random(6)
        for kind, keys, questions in exact_cases():
            rule = sharpest(kind, keys, questions)
            for _ in range(20):
                tree = random_tree(chance, kind, keys)
                for question in questions:
                    self.assertEqual(tree.lost(question, rule), [])
                    self.assertEqual(list(tree.search(question, rule)), list(tree.search(question)))
                    self.assertLessEqual(set(tree.opened(question, rule)), set(tree.opened(question)))

    def test_mended_searches_lose_nothing(self):
        chance = random.Random(7)
        for kind, keys, questions in [*lossy_cases(), *judged_cases(60)]:
            rule = mended(kind, keys, questions)
            for _ in range(6 if keys else 0):
                tree = random_tree(chance, kind, keys)
                self.assertEqual([tree.lost(question, rule) for question in questions], [[] for _ in questions])

    def test_nothing_given(self):
        for keys, questions in (([], []), ([], [1]), ((), ())):
            for rule in (sharpest, mended):
                self.check_grid(rule(Kind(), keys, questions), set())
        self.check_grid(sharpest(Ranges(), [1], []), set())

    def test_what_is_asked(self):
        for kind, keys, questions in exact_cases():
            noting = Noting(kind)
            sharpest(noting, keys, questions)
            self.assertLessEqual(noting.names(), {"own", "join", "matches"})
            mended(noting, keys, questions)
            self.assertLessEqual(noting.names(), {"own", "join", "matches", "consistent"})

    def test_not_given(self):
        class Alone(Ranges):
            consistent = Kind.consistent

        self.assertEqual(len(sharpest(Alone(), [1, 5], [(1, 1)])), 2)
        self.fails(NotGiven, lambda: mended(Alone(), [1, 5], [(1, 1)]), name="consistent")
