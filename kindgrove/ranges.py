"""Kinds of ranges and boxes of integers. A range is a tuple (low, high)."""

from kindgrove.errors import BadValue
from kindgrove.halves import halves_by
from kindgrove.kinds import Kind, Measured
from kindgrove.values import is_int

MOST_DIMENSIONS = 6


class Ranges(Kind, Measured):
    """Integers, below the least ranges that hold them; questions are ranges, points integers."""

    def own(self, key):
        """The range of the key alone."""
        return (key, key)

    def join(self, one, other):
        """The least range that holds both."""
        return hull(one, other)

    def consistent(self, label, question):
        """Whether the label shares an integer with the question, which may hold none."""
        return share_integer(label, question)

    def matches(self, key, question):
        """Whether the key is in the question."""
        return question[0] <= key <= question[1]

    def penalty(self, label, key):
        """By how much the label grows wider."""
        return width_of(hull(label, (key, key))) - width_of(label)

    def sides(self, labels):
        """Halves by the middles of the labels."""
        return halves_by([low + high for low, high in labels])

    def distance(self, key, point):
        """The absolute difference."""
        return abs(key - point)

    def bound(self, label, point):
        """The distance to the nearer end, 0 in the range."""
        return gap(label, point)


class Boxes(Kind, Measured):
    """Boxes, below the least boxes that hold them; questions are boxes, points tuples of integers.

    A box is a tuple with a range for each dimension.
    """

    def __init__(self, dimensions=2):
        if not is_int(dimensions) or not 1 <= dimensions <= MOST_DIMENSIONS:
            raise BadValue(dimensions)
        self.axes = dimensions

    @property
    def dimensions(self):
        """The number of ranges in a box."""
        return self.axes

    @staticmethod
    def around(points):
        """The least box that holds some points, at least one."""
        if not are_points(points):
            raise BadValue(points)
        return tuple([(min(numbers), max(numbers)) for numbers in zip(*points)])

    def own(self, key):
        """The key itself."""
        return key

    def join(self, one, other):
        """The least box that holds both."""
        return hull_of_boxes(one, other)

    def consistent(self, label, question):
        """Whether the label shares a point with the question."""
        return share_point(label, question)

    def matches(self, key, question):
        """Whether the key shares a point with the question."""
        return share_point(key, question)

    def penalty(self, label, key):
        """By how much the widths of the label grow, all taken together."""
        return widths_of(hull_of_boxes(label, key)) - widths_of(label)

    def sides(self, labels):
        """Halves by the middles of the labels in the dimension in which these lie farthest apart."""
        if len(labels) == 0:
            return []
        middles = [[sum(label[axis]) for label in labels] for axis in range(self.axes)]
        spreads = [max(row) - min(row) for row in middles]
        return halves_by(middles[spreads.index(max(spreads))])

    def distance(self, key, point):
        """The sum of the distances in all dimensions."""
        return gaps(key, point)

    def bound(self, label, point):
        """The sum of the distances in all dimensions."""
        return gaps(label, point)


def hull(one, other):
    """The least range that holds two ranges."""
    return (min(one[0], other[0]), max(one[1], other[1]))


def share_integer(one, other):
    """Whether an integer is in both ranges; a range with its low above its high holds none."""
    return max(one[0], other[0]) <= min(one[1], other[1])


def width_of(span):
    """The width of a range."""
    return span[1] - span[0]


def gap(span, number):
    """How far a number is from a range, 0 within it."""
    return max(span[0] - number, number - span[1], 0)


def hull_of_boxes(one, other):
    """The least box that holds two boxes."""
    return tuple([hull(first, second) for first, second in zip(one, other)])


def share_point(one, other):
    """Whether a point is in both boxes."""
    return all([share_integer(first, second) for first, second in zip(one, other)])


def widths_of(box):
    """The sum of the widths of a box."""
    return sum([width_of(span) for span in box])


def gaps(box, point):
    """How far a point is from a box, by the sum over the dimensions."""
    return sum([gap(span, number) for span, number in zip(box, point)])


def are_points(things):
    """Whether any object is a list or tuple of at least one tuple of integers, all of one length."""
    if not isinstance(things, (list, tuple)) or len(things) == 0:
        return False
    if not all([isinstance(thing, tuple) for thing in things]):
        return False
    many = len(things[0])
    return all([len(thing) == many and all([is_int(part) for part in thing]) for thing in things])
