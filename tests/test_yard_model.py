"""[11.2] to [11.8] Yards and the model in step, with works woven in many orders; and [11.10] the yard's promise."""

import random

from checks import Checks
from model_yard import ModelYard
from sample_kinds import Texts

from kindgrove.kinds import Kind
from kindgrove.ranges import Boxes, Ranges
from kindgrove.rests import Rests, Signs, Stems
from kindgrove.yards import Yard


class First(Texts):
    """Texts whose puts go to the first of equal penalties: often to nodes that are open."""

    penalty = Kind.penalty


def cases():
    """Exact kinds with keys and questions."""
    yield Ranges(), list(range(12)), [(0, 11), (3, 7), (5, 5), (20, 30)]
    yield Texts(), list(range(6)), list(range(6))
    yield First(), list(range(6)), list(range(6))
    yield Stems(), ["a", "ab", "abc", "b", "ba", ""], ["", "a", "ab", "b", "c"]
    yield Rests(), [3, 7, 12, 20, 41], [(4, 3), (5, 2), (1, 0)]
    yield Signs(4), [(1,), (2, 3), (), (9,)], [(1,), (), (3, 2)]
    yield Boxes(1), [((at, at + at % 3),) for at in range(9)], [((2, 4),), ((0, 20),)]


class Weaver:
    """A yard and a model with works in them, of which steps are done in an order by chance."""

    def __init__(self, test, kind, keys, questions, most, linked, seed):
        self.test, self.kind, self.keys, self.questions = test, kind, keys, questions
        self.chance = random.Random(seed)
        self.yard, self.model = Yard(kind, most=most, linked=linked), ModelYard(kind, most, linked)
        self.works, self.done_puts = [], set()

    def begin(self):
        if self.chance.randrange(3):
            key = self.chance.choice(self.keys)
            pair = self.yard.put(key), self.model.put(key)
            self.test.assertEqual((pair[0].row_number, pair[0].row_key), (pair[1].number, key))
        else:
            question = self.chance.choice(self.questions)
            pair = self.yard.seek(question), self.model.seek(question)
            self.test.assertEqual((pair[0].question, pair[0].told), (question, []))
        self.test.assertEqual((pair[0].is_begun, pair[0].is_done), (False, False))
        self.works.append(pair)

    def step(self, pair):
        work, twin = pair
        if not twin.is_begun:
            twin.earlier = set(self.done_puts)
        self.test.assertIs(work.step(), twin.step())
        self.compare(work, twin)
        if twin.is_done:
            self.works.remove(pair)
            if twin.number is None:
                self.judge(twin)
            else:
                self.done_puts.add(twin.number)

    def compare(self, work, twin):
        test, yard, model = self.test, self.yard, self.model
        test.assertEqual(yard.view(), model.view())
        test.assertEqual((yard.counter, yard.height), (model.counter, len(model.left)))
        test.assertEqual((work.is_begun, work.is_done), (True, twin.is_done))
        if twin.number is None:
            test.assertEqual(work.told, twin.told)

    def judge(self, search):
        """[11.10] of a search that is done."""
        if not self.model.linked:
            return
        self.test.assertEqual(len(search.told), len(set(search.told)))
        matching = {number for number, key in enumerate(self.model.keys) if self.kind.matches(key, search.question)}
        in_leaves = {number for leaf in self.model.row(0) for number in leaf.entries}
        self.test.assertLessEqual(set(search.told), matching & in_leaves)
        self.test.assertLessEqual(matching & search.earlier, set(search.told))

    def run(self, steps, most_works):
        for _ in range(steps):
            if len(self.works) < most_works and self.chance.randrange(3) == 0:
                self.begin()
            elif self.works:
                self.step(self.chance.choice(self.works))
        self.finish()

    def finish(self):
        while self.works:
            self.step(self.chance.choice(self.works))
        flat = [node for level in self.yard.view() for node in level]
        self.test.assertTrue(all(is_posted and not is_open for _, _, is_open, is_posted in flat))
        for question in self.questions:
            search = self.model.seek(question)
            while not search.is_done:
                search.step()
            self.test.assertEqual(self.yard.find(question), sorted(search.told))
            wanted = [number for number, key in enumerate(self.model.keys) if self.kind.matches(key, question)]
            # An exact kind loses nothing when no work is in the midst, be the yard linked or not.
            self.test.assertEqual(self.yard.find(question), wanted)


class YardModelTest(Checks):

    def test_works_woven_in_many_orders(self):
        for number, (kind, keys, questions) in enumerate(cases()):
            for seed in range(6):
                for most, linked in ((2, True), (3, True), (2, False), (4, True)):
                    with self.subTest(kind=number, most=most, linked=linked, seed=seed):
                        weaver = Weaver(self, kind, keys, questions, most, linked, seed)
                        weaver.run(120, 2 + seed)

    def test_many_puts_at_once(self):
        """Nodes are divided while others beside them are not posted yet, at several levels."""
        for seed in range(30):
            for kind, keys, questions in list(cases())[:3]:
                weaver = Weaver(self, kind, keys, questions, 2, True, seed)
                for _ in range(14):
                    weaver.begin()
                weaver.finish()

    def test_puts_one_by_one(self):
        for kind, keys, questions in cases():
            for most in (2, 5):
                weaver = Weaver(self, kind, keys, questions, most, True, most)
                weaver.run(150, 1)

    def test_wide_nodes(self):
        weaver = Weaver(self, Ranges(), list(range(400)), [(0, 400), (7, 90)], 50, True, 1)
        for _ in range(160):
            weaver.begin()
        weaver.finish()
