"""[3.6], [3.8] Boxes, worked out here by going through the points of small boxes one by one."""

import itertools
import random

from checks import Checks
from sample_kinds import odd_things
from test_ranges import halves, held

from kindgrove.errors import BadValue
from kindgrove.kinds import Kind, Measured
from kindgrove.ranges import Boxes, Ranges

BIG = 10 ** 399


def points_in(box):
    return set(itertools.product(*[held(span) for span in box]))


def some_box(chance, dimensions, spread=3, longest=2):
    lows = [chance.randint(-spread, spread) for _ in range(dimensions)]
    return tuple((low, low + chance.randint(0, longest)) for low in lows)


def some_point(chance, dimensions, spread=5):
    return tuple(chance.randint(-spread, spread) for _ in range(dimensions))


class BoxesTest(Checks):

    def cases(self):
        """A kind and several random boxes and points, for one to six dimensions."""
        chance = random.Random(2)
        for dimensions in range(1, 7):
            for _ in range(30):
                size = 2 if dimensions < 5 else 1
                boxes = [some_box(chance, dimensions, size, size) for _ in range(2)]
                yield Boxes(dimensions), *boxes, some_point(chance, dimensions)

    def test_dimensions(self):
        self.assertEqual([Boxes(many).dimensions for many in range(1, 7)], [1, 2, 3, 4, 5, 6])
        self.assertEqual([Boxes().dimensions, Boxes(dimensions=3).dimensions], [2, 3])
        self.assertTrue(isinstance(Boxes(), Kind) and isinstance(Boxes(), Measured))
        with self.assertRaises(AttributeError):
            Boxes().dimensions = 3

    def test_wrong_dimensions(self):
        for wrong in [*odd_things(), 7, -2, 60, True, False, "2", 2.0, (2,), [2], 10 ** 40]:
            if type(wrong) is not int or not 1 <= wrong <= 6:
                self.fails(BadValue, lambda: Boxes(wrong), value=wrong)
                self.fails(BadValue, lambda: Boxes(dimensions=wrong), value=wrong)
        self.fails(BadValue, lambda: Boxes(0), value=0)

    def test_own(self):
        for kind, box, _, _ in self.cases():
            self.assertEqual((kind.own(box), kind.own(key=box)), (box, box))

    def test_join(self):
        for kind, one, other, _ in self.cases():
            both = points_in(one) | points_in(other)
            wanted = tuple((min(numbers), max(numbers)) for numbers in zip(*both))
            self.assertEqual((kind.join(one, other), kind.join(other=other, one=one)), (wanted, wanted))

    def test_consistent_and_matches(self):
        found = set()
        for kind, box, question, _ in self.cases():
            wanted = bool(points_in(box) & points_in(question))
            found.add((kind.dimensions, wanted))
            self.assertIs(kind.consistent(box, question), wanted)
            self.assertIs(kind.consistent(label=box, question=question), wanted)
            self.assertIs(kind.matches(box, question), wanted)
            self.assertIs(kind.matches(key=box, question=question), wanted)
        self.assertEqual(len(found), 12)

    def test_boxes_that_meet_in_some_dimensions_only(self):
        kind = Boxes(3)
        box = ((0, 5), (0, 5), (0, 5))
        for at in range(3):
            for span, wanted in (((5, 9), True), ((6, 9), False), ((-3, 0), True), ((-3, -1), False), ((2, 3), True)):
                question = box[:at] + (span,) + box[at + 1:]
                self.assertEqual((kind.matches(box, question), kind.consistent(question, box)), (wanted, wanted))

    def test_penalty(self):
        for kind, label, key, _ in self.cases():
            wanted = 0
            for span, more in zip(label, key):
                grown = held(span) | held(more)
                wanted += (max(grown) - min(grown)) - (span[1] - span[0])
            self.assertEqual((kind.penalty(label, key), kind.penalty(key=key, label=label)), (wanted, wanted))

    def test_distance_and_bound(self):
        for kind, box, _, point in self.cases():
            wanted = min(sum(abs(a - b) for a, b in zip(inner, point)) for inner in points_in(box))
            self.assertEqual((kind.distance(box, point), kind.bound(box, point)), (wanted, wanted))
            self.assertEqual((kind.distance(key=box, point=point), kind.bound(label=box, point=point)),
                             (wanted, wanted))

    def test_great_numbers(self):
        kind = Boxes()
        label = ((-BIG, BIG), (0, BIG))
        self.assertEqual(kind.join(label, ((BIG, 2 * BIG), (-1, -1))), ((-BIG, 2 * BIG), (-1, BIG)))
        self.assertEqual(kind.penalty(label, ((BIG, 2 * BIG), (-1, -1))), BIG + 1)
        self.assertEqual(kind.distance(label, (2 * BIG, -3)), BIG + 3)
        self.assertEqual([kind.matches(label, ((BIG, BIG + 1), (BIG, BIG + 1))),
                          kind.matches(label, ((BIG, BIG + 1), (BIG + 1, BIG + 1)))], [True, False])
        self.assertEqual(kind.sides([((BIG, BIG), (0, 0)), ((1, 1), (BIG, BIG)), ((0, 0), (7, 7))]), [1, 1, 0])

    def test_one_dimension_is_as_ranges(self):
        chance = random.Random(4)
        for _ in range(40):
            one, other = some_box(chance, 1), some_box(chance, 1)
            point = some_point(chance, 1)
            self.assertEqual(Boxes(1).join(one, other)[0], Ranges().join(one[0], other[0]))
            self.assertEqual(Boxes(1).consistent(one, other), Ranges().consistent(one[0], other[0]))
            self.assertEqual(Boxes(1).bound(one, point), Ranges().bound(one[0], point[0]))


class SidesTest(Checks):

    def wanted(self, labels, dimensions):
        best, marks = None, []
        for axis in range(dimensions):
            middles = [label[axis][0] + label[axis][1] for label in labels]
            spread = max(middles) - min(middles)
            if best is None or spread > best:
                best, marks = spread, middles
        return halves(marks)

    def test_random_labels(self):
        chance = random.Random(6)
        for dimensions in range(1, 7):
            for many in range(1, 31):
                for spread in (0, 1, 2, 40):
                    labels = [some_box(chance, dimensions, spread) for _ in range(many)]
                    found = Boxes(dimensions).sides(labels)
                    self.assertEqual(found, self.wanted(labels, dimensions))
                    self.assertEqual(Boxes(dimensions).sides(labels=tuple(labels)), found)

    def test_edges(self):
        self.assertEqual([Boxes(3).sides([((1, 2),) * 3]), Boxes(3).sides([])], [[1], []])
        self.assertEqual(Boxes().sides([((1, 2), (3, 4))] * 5), [0, 0, 1, 1, 1])

    def test_the_dimension_with_the_greatest_spread(self):
        labels = [((0, 0), (9, 9)), ((1, 1), (5, 5)), ((2, 2), (0, 0))]
        self.assertEqual(Boxes().sides(labels), [1, 1, 0])
        self.assertEqual(Boxes().sides([(second, first) for first, second in labels]), [1, 1, 0])

    def test_the_first_of_equal_spreads(self):
        labels = [((0, 0), (4, 4)), ((4, 4), (0, 0))]
        self.assertEqual(Boxes().sides(labels), [0, 1])
        self.assertEqual(Boxes(3).sides([((3, 3), *label) for label in labels]), [0, 1])
        self.assertEqual(Boxes(3).sides([(*label[::-1], (3, 3)) for label in labels]), [1, 0])

    def test_middles_count_not_widths_or_lows(self):
        # Equal lows, and widths that are greater in the dimension in which the middles lie nearer.
        labels = [((0, 6), (-30, 30)), ((0, 4), (-31, 31)), ((0, 2), (-40, 40))]
        self.assertEqual(Boxes().sides(labels), [1, 1, 0])


class AroundTest(Checks):

    def test_example(self):
        self.assertEqual(Boxes.around([(1, 2), (3, 0)]), ((1, 3), (0, 2)))

    def test_least_box(self):
        chance = random.Random(8)
        for dimensions in range(1, 9):
            for many in (1, 2, 5, 60):
                points = [some_point(chance, dimensions, 30) for _ in range(many)]
                box = Boxes.around(points)
                self.assertIs(type(box), tuple)
                self.assertEqual(len(box), dimensions)
                for axis, span in enumerate(box):
                    numbers = sorted(point[axis] for point in points)
                    self.assertEqual(span, (numbers[0], numbers[-1]))
                self.assertEqual(Boxes.around(points=points), box)

    def test_of_objects_too(self):
        self.assertEqual(Boxes(5).around([(1, 2)]), ((1, 1), (2, 2)))
        self.assertEqual(Boxes(5).dimensions, 5)

    def test_great_numbers(self):
        self.assertEqual(Boxes.around([(BIG, -BIG), (-BIG, BIG), (0, 0)]), ((-BIG, BIG), (-BIG, BIG)))

    def test_no_points(self):
        empty = []
        self.fails(BadValue, lambda: Boxes.around(empty), value=empty)
        self.fails(BadValue, lambda: Boxes.around(points=empty), value=empty)

    def test_what_is_no_list_of_points(self):
        for wrong in [*odd_things(), [(1, 2), (3,)], [(1, True)], [(1, 2.5)], [[1, 2]], ["ab"], 5,
                      [(1, 2), [3, 4]], [[1, 2], (3, 4)], [(1, 2), 3], [(1, 2), None]]:
            self.fails(BadValue, lambda: Boxes.around(wrong), value=wrong)

    def test_points_are_not_changed(self):
        points = [(1, 2), (3, 0)]
        Boxes.around(points)
        self.assertEqual(points, [(1, 2), (3, 0)])
