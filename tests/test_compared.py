"""[9.1], [9.2] Classes of alike labels, and what parts labels."""

import itertools
import random

from checks import Checks
from model_reach import plain_reach
from model_verdicts import judged_cases
from sample_kinds import Noting, odd_things
from test_verdicts import exact_cases, lossy_cases

from kindgrove.compared import classes, is_parting, parting
from kindgrove.errors import NoLabel, NotGiven
from kindgrove.grids import Grid
from kindgrove.kinds import Calls, Kind
from kindgrove.ranges import Ranges
from kindgrove.rests import Stems


def all_cases():
    return [*exact_cases(), *lossy_cases(), *judged_cases(100)]


def plain_steps(kind, keys, questions):
    """For each two reached labels the least number of steps of a context that parts them; only parted ones are there.

    A pair is parted by n + 1 steps if some step leads to a pair that is parted by n steps.
    """
    labels = sorted(plain_reach(kind, keys)[0], key=repr)
    steps = {(one, other): 0 for one in labels for other in labels
             if any(kind.consistent(one, question) != kind.consistent(other, question) for question in questions)}
    for depth in range(1, len(labels) + 1):
        for one, other in itertools.product(labels, labels):
            if (one, other) not in steps:
                turned = [(kind.join(one, label), kind.join(other, label)) for label in labels]
                turned += [(kind.join(label, one), kind.join(label, other)) for label in labels]
                if any(steps.get(pair) == depth - 1 for pair in turned):
                    steps[one, other] = depth
    return labels, steps


def counting(many):
    """The labels 0 to many - 2 and "s", which leads from n to n + 1 from the right; only many - 2 is not consistent."""
    return Calls(own=lambda key: "s" if key == "s" else 0, consistent=lambda label, question: label != many - 2,
                 join=lambda one, other: min(one + 1, many - 2) if one != "s" and other == "s" else 0, matches=Grid())


class ClassesTest(Checks):

    def test_example(self):
        kind, _, _ = next(lossy_cases())
        self.assertEqual(classes(kind, ["ab"], ["a", "b"]), [["ab"], ["zz"]])
        self.assertEqual(parting(kind, ["ab"], ["a"], "ab", "zz"), ([], "a"))

    def test_against_contexts(self):
        sizes = set()
        for kind, keys, questions in all_cases():
            labels, steps = plain_steps(kind, keys, questions)
            found = classes(kind, keys, questions)
            self.assertEqual(sorted((label for group in found for label in group), key=repr), labels)
            for group in found:
                self.assertEqual(group, sorted(group, key=repr))
                self.assertEqual({pair for pair in itertools.product(group, group) if pair in steps}, set())
            for one, other in itertools.combinations(found, 2):
                self.assertTrue(all(pair in steps for pair in itertools.product(one, other)))
            self.assertEqual([group[0] for group in found], sorted((group[0] for group in found), key=repr))
            self.assertEqual(classes(questions=tuple(questions * 2), keys=tuple(keys[::-1]), kind=kind), found)
            sizes.add((len(found) > 1, len(found) < len(labels)))
        self.assertEqual(len(sizes), 4)

    def test_no_questions_and_no_keys(self):
        self.assertEqual(classes(Ranges(), [1, 5], []), [[(1, 1), (1, 5), (5, 5)]])
        self.assertEqual(classes(Kind(), [], []), [])
        self.assertEqual(classes(Kind(), (), (1,)), [])

    def test_order_of_classes(self):
        kind = Calls(own=lambda key: key, join=lambda one, other: one, consistent=lambda label, question: label
                     in (9, None, "b"), matches=Grid())
        self.assertEqual(classes(kind, [None, 10, 9, "b", "a", ()], [0]), [["a", (), 10], ["b", 9, None]])

    def test_lists_are_new(self):
        for _ in range(2):
            found = classes(Ranges(), [1, 5], [])
            self.assertEqual(found, [[(1, 1), (1, 5), (5, 5)]])
            found[0].clear()

    def test_two_hundred_labels(self):
        labels = ["s", *sorted(range(199), key=repr)]
        self.assertEqual(classes(counting(200), ["key", "s"], [0]), [[label] for label in labels])
        mixed = Calls(own=lambda key: key, join=lambda one, other: (one * 7 + other * 3 + 1) % 200,
                      consistent=lambda label, question: (label + question) % 2 == 0, matches=Grid())
        self.assertEqual([len(group) for group in classes(mixed, list(range(60)), list(range(60)))], [100, 100])

    def test_what_is_asked(self):
        kind = Noting(Stems())
        classes(kind, ["ab", "ac"], ["a", "b"])
        parting(kind, ["ab", "ac"], ["a", "b"], "a", "ab")
        is_parting(kind, ["ab", "ac"], ["a", "b"], "a", "ab", ([], "b"))
        self.assertLessEqual(kind.names(), {"own", "join", "consistent"})
        self.fails(NotGiven, lambda: classes(Calls(own=abs, join=max, consistent=Kind().consistent, matches=None), [1],
                                             [1]), name="consistent")


class PartingTest(Checks):

    def plain_parts(self, kind, one, other, found):
        context, question = found
        for side, label in context:
            if side == 0:
                one, other = kind.join(one, label), kind.join(other, label)
            else:
                one, other = kind.join(label, one), kind.join(label, other)
        return kind.consistent(one, question) != kind.consistent(other, question)

    def test_fewest_steps(self):
        lengths = set()
        for kind, keys, questions in all_cases():
            labels, steps = plain_steps(kind, keys, questions)
            for one, other in itertools.product(labels[:9], labels[:9]):
                found = parting(kind, keys, questions, one, other)
                if (one, other) not in steps:
                    self.assertIsNone(found)
                else:
                    self.assertEqual((type(found), len(found), type(found[0])), (tuple, 2, list))
                    self.assertEqual(len(found[0]), steps[one, other])
                    self.assertTrue(all(side in (0, 1) and label in labels for side, label in found[0]))
                    self.assertTrue(found[1] in questions and self.plain_parts(kind, one, other, found))
                    self.assertIs(is_parting(kind, keys, questions, one, other, found), True)
                    self.assertIs(is_parting(kind, keys, questions, other, one, found), True)
                    lengths.add(len(found[0]))
        self.assertLessEqual({0, 1, 2}, lengths)

    def test_long_partings(self):
        for one, other, many in ((0, 1, 197), (5, 198, 0), (198, 0, 0), (50, 3, 148), (7, 7, None), ("s", 4, 1)):
            found = parting(counting(200), ["key", "s"], [0, 1], one, other)
            if many is None:
                self.assertIsNone(found)
            else:
                self.assertEqual(len(found[0]), many)
                self.assertIs(is_parting(counting(200), ["key", "s"], [0, 1], one, other, found), True)

    def test_by_names(self):
        kind, keys, questions = Stems(), ["ab", "ac"], ["ab"]
        found = parting(other="a", one="ac", questions=questions, keys=keys, kind=kind)
        self.assertEqual(found, ([], "ab"))
        self.assertIs(is_parting(thing=found, other="a", one="ac", questions=questions, keys=keys, kind=kind), True)

    def test_labels_that_are_not_reached(self):
        reached = (1, 5)
        for thing in [*odd_things(), (5, 1), (1, 9), (True, 5), [1, 5], 1]:
            for ask in (lambda one, other: parting(Ranges(), [1, 5], [(1, 1)], one, other),
                        lambda one, other: is_parting(Ranges(), [1, 5], [(1, 1)], one, other, None)):
                self.fails(NoLabel, lambda: ask(thing, reached), label=thing)
                self.fails(NoLabel, lambda: ask(reached, thing), label=thing)
                self.fails(NoLabel, lambda: ask(thing, (7, 7)), label=thing)
                self.fails(NoLabel, lambda: ask((7, 7), thing), label=(7, 7))
        self.fails(NoLabel, lambda: parting(Kind(), [], [], 1, 2), label=1)


class IsPartingTest(Checks):

    kind, keys, questions = Ranges(), [1, 5], [(1, 1), (3, 4)]
    one, other = (1, 1), (5, 5)

    def judged(self, thing):
        return is_parting(self.kind, self.keys, self.questions, self.one, self.other, thing)

    def test_partings_of_any_length(self):
        self.assertIs(self.judged(([], (1, 1))), True)
        self.assertIs(self.judged(([(0, (5, 5))], (1, 1))), True)
        self.assertIs(self.judged(([(1, (5, 5)), (0, (5, 5))] * 100, (1, 1))), True)
        self.assertIs(self.judged(([(1, (5, 5)), (0, (1, 1))] * 100, (1, 1))), False)

    def test_what_does_not_part(self):
        self.assertIs(self.judged(([], (3, 4))), False)
        self.assertIs(self.judged(([(0, (1, 1))], (1, 1))), False)
        self.assertIs(is_parting(self.kind, self.keys, self.questions, self.one, self.one, ([], (1, 1))), False)

    def test_sides(self):
        kind = Calls(own=lambda key: key, join=lambda one, other: one, consistent=Grid(), matches=Grid())
        kind.consistent_function["a", "q"] = True
        self.assertIs(is_parting(kind, ["a", "b"], ["q"], "a", "b", ([(0, "b")], "q")), True)
        self.assertIs(is_parting(kind, ["a", "b"], ["q"], "a", "b", ([(1, "b")], "q")), False)
        self.assertIs(is_parting(kind, ["a", "b"], ["q"], "a", "b", ([(1, "a")], "q")), False)

    def test_whatever_object(self):
        step = (0, (5, 5))
        for thing in odd_things():
            self.assertIs(self.judged(thing), False)
            self.assertIs(self.judged((thing, (1, 1))), thing == [])
            self.assertIs(self.judged(([], thing)), False)
            self.assertIs(self.judged(([], (1, 1), thing)), False)
            self.assertIs(self.judged(([step, thing], (1, 1))), False)
            self.assertIs(self.judged(([(thing, (5, 5))], (1, 1))), False)
            self.assertIs(self.judged(([(0, thing)], (1, 1))), False)
            self.assertIs(self.judged(([(0, (5, 5), thing)], (1, 1))), False)

    def test_not_quite(self):
        for thing in [[[], (1, 1)], ((), (1, 1)), ([[0, (5, 5)]], (1, 1)), ([(False, (5, 5))], (1, 1)),
                      ([(2, (5, 5))], (1, 1)), ([(-1, (5, 5))], (1, 1)), ([(0.0, (5, 5))], (1, 1)),
                      ([(0, (5, 6))], (1, 1)), ([(0, (5, 5.0))], (1, 1)), ([], (1, 2)), ([], (True, 1)), ([], [1, 1]),
                      ([],), ([(0,)], (1, 1)), ([(5, 5), 0], (1, 1))]:
            self.assertIs(self.judged(thing), False)


class RandomContextsTest(Checks):

    def test_alike_labels_are_parted_by_no_context(self):
        chance = random.Random(9)
        for kind, keys, questions in judged_cases(60):
            labels = plain_reach(kind, keys)[0]
            for group in classes(kind, keys, questions):
                for _ in range(5 if questions else 0):
                    context = [(chance.randrange(2), chance.choice(sorted(labels, key=repr)))
                               for _ in range(chance.randrange(12))]
                    thing = (context, chance.choice(questions))
                    self.assertIs(is_parting(kind, keys, questions, group[0], group[-1], thing), False)
