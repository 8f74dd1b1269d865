"""[9.3] Kinds with as few labels as possible."""

import random

from checks import Checks
from sample_kinds import Noting
from test_compared import all_cases, counting

from kindgrove.compared import classes, merged, opens_more, parted
from kindgrove.kinds import Calls, Kind, Measured
from kindgrove.ranges import Ranges
from kindgrove.reach import Reach
from kindgrove.trees import Tree
from kindgrove.verdicts import is_exact


def random_shape(chance, keys, levels):
    many = chance.randrange(1, 5)
    if levels == 1:
        return [chance.choice(keys) for _ in range(many)]
    return [random_shape(chance, keys, levels - 1) for _ in range(many)]


class MergedTest(Checks):

    def test_label_by_label(self):
        for kind, keys, questions in all_cases():
            found = classes(kind, keys, questions)
            index = {label: at for at, group in enumerate(found) for label in group}
            twin = merged(questions=questions, keys=keys, kind=kind)
            self.assertIsInstance(twin, Kind)
            for key in keys:
                self.assertEqual(twin.own(key), index[kind.own(key)])
                for question in questions:
                    self.assertIs(twin.matches(key, question), kind.matches(key, question))
            for one in index:
                for question in questions:
                    self.assertIs(twin.consistent(index[one], question), kind.consistent(one, question))
                for other in index:
                    self.assertEqual(twin.join(index[one], index[other]), index[kind.join(one, other)])
            self.assertEqual(Reach(twin, keys).labels(), sorted(range(len(found)), key=repr))

    def test_trees_of_one_shape_open_the_same_nodes(self):
        chance = random.Random(1)
        for kind, keys, questions in all_cases():
            twin = merged(kind, keys, questions)
            for _ in range(6 if keys else 0):
                shape = random_shape(chance, keys, chance.randrange(1, 4))
                one, other = Tree.packed(kind, shape), Tree.packed(twin, shape)
                for question in questions:
                    self.assertEqual(one.opened(question), other.opened(question))
                    self.assertEqual(list(one.search(question)), list(other.search(question)))

    def test_it_has_the_same_verdicts_and_no_two_labels_are_alike(self):
        for kind, keys, questions in all_cases():
            twin = merged(kind, keys, questions)
            self.assertIs(is_exact(twin, keys, questions), is_exact(kind, keys, questions))
            self.assertIsNone(parted(kind, twin, keys, questions))
            self.assertIsNone(opens_more(twin, kind, keys, questions))
            self.assertTrue(all(len(group) == 1 for group in classes(twin, keys, questions)))

    def test_penalty_and_sides_are_those_of_kind(self):
        twin = merged(Ranges(), [1, 5, 9], [(4, 6)])
        self.assertEqual([twin.penalty(label, key) for label in (0, 1) for key in (1, 9)], [0, 0, 0, 0])
        self.assertEqual([twin.sides([0] * many) for many in range(4)], [[], [1], [0, 1], [0, 1, 1]])
        self.assertNotIsInstance(twin, Measured)

    def test_puts(self):
        twin = merged(Ranges(), [1, 5, 9], [(4, 6)])
        tree = Tree(twin, most=2)
        for key in (9, 5, 1, 5, 9, 1):
            tree.put(key)
        self.assertEqual([tree.key_of(number) for number in tree.search((4, 6))], [5, 5])

    def test_what_was_passed_may_change(self):
        keys, questions = [1, 5, 9], [(4, 6), (9, 9)]
        twin, wanted = merged(Ranges(), keys, questions), merged(Ranges(), tuple(keys), tuple(questions))
        keys.clear()
        questions[:] = [(0, 0)]
        labels = Reach(wanted, [1, 5, 9]).labels()
        self.assertEqual(Reach(twin, [1, 5, 9]).pairs(), Reach(wanted, [1, 5, 9]).pairs())
        self.assertEqual([[twin.consistent(label, question) for label in labels] for question in [(4, 6), (9, 9)]],
                         [[wanted.consistent(label, question) for label in labels] for question in [(4, 6), (9, 9)]])

    def test_matches_is_asked_only_when_it_is_called(self):
        kind = Noting(Ranges())
        twin = merged(kind, [1, 5], [(4, 6)])
        self.assertEqual(kind.named("matches"), [])
        self.assertIs(twin.matches(5, (4, 6)), True)
        self.assertEqual(kind.named("matches"), [(5, (4, 6))])

    def test_nothing_given(self):
        self.assertEqual(Reach(merged(Kind(), [], []), []).labels(), [])
        self.assertEqual(Reach(merged(Ranges(), [1, 5], []), [1, 5]).pairs(), [(0, 1), (0, 5)])

    def test_two_hundred_labels(self):
        twin = merged(counting(200), ["key", "s"], [0])
        self.assertEqual(len(Reach(twin, ["key", "s"]).labels()), 200)

    def test_it_is_named_by_position_of_classes(self):
        kind = Calls(own=lambda key: key, join=lambda one, other: one, matches=None,
                     consistent=lambda label, question: label in (9, None, "b"))
        twin = merged(kind, [None, 10, 9, "b", "a", ()], [0])
        self.assertEqual([twin.own(key) for key in (None, 10, 9, "b", "a", ())], [1, 0, 1, 1, 0, 0])
