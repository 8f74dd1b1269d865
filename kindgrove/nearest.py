"""Nearest rows: what trees of measured kinds find by distance, and whether a bound lets them find all of it."""

from kindgrove.cases import check_values, distinct, indexes_in, keys_below
from kindgrove.claims import claim_of
from kindgrove.errors import BadCount, BadValue, NotGiven
from kindgrove.grids import Grid
from kindgrove.hunts import Hunt
from kindgrove.kinds import Measured
from kindgrove.nodes import walk
from kindgrove.reach import Reach
from kindgrove.recipes import shortest_with
from kindgrove.values import by_repr, is_int


def within(tree, point, limit, *, bound=None):
    """The numbers of the rows in opened leaves that are at most so far from a point, ascending."""
    check_values([point])
    if not is_int(limit):
        raise BadCount(limit)
    check_measured(tree.kind)
    kind = tree.kind
    bound_of = bound_to(kind, point, bound)
    visits = list(walk(tree.root, (), lambda path, label: bound_of(label) <= limit))
    numbers = [entry.below for path, node in visits if node.is_leaf for entry in node.entries]
    return sorted([number for number in numbers if kind.distance(tree.stored[number], point) <= limit])


def nearest(tree, point, many, *, bound=None):
    """The rows (distance, number) that come first by distance, equal ones by number."""
    return hunt_for(tree, point, many, bound).best


def nodes_for(tree, point, many, *, bound=None):
    """The paths of the nodes that are opened for so many nearest rows, ascending."""
    return sorted(hunt_for(tree, point, many, bound).paths)


def bound_miss(kind, keys, points):
    """A tuple (recipe, way, point) for which the kind's bound is too high, with as few rows as possible, or None."""
    check_measures(kind, keys, points)
    reach = Reach(kind, keys)
    wrong = wrong_bounds(kind, reach, distinct(points))
    if len(wrong) == 0:
        return None
    label, key = min(list(wrong), key=lambda pair: reach.least_with(pair[0], pair[1]))
    recipe, way = shortest_with(reach, label, key)
    return (recipe, way, wrong[label, key])


def is_bound_miss(kind, keys, points, thing):
    """Whether any object is a tuple (recipe, way, point) for which the kind's bound is too high."""
    check_measures(kind, keys, points)
    claim = claim_of(kind, keys, points, thing)
    if claim is None:
        return False
    label, key, point = claim
    return kind.bound(label, point) > kind.distance(key, point)


def tightest(kind, keys, points):
    """The grid that has for each reached label and each point the greatest bound that is right."""
    check_measures(kind, keys, points)
    reach = Reach(kind, keys)
    grid = Grid(None)
    for (label, point), least in least_distances(kind, reach, distinct(points)):
        grid[label, point] = least
    return grid


def check_measures(kind, keys, points):
    """The errors for what is asked of a kind with some keys and points."""
    check_values(keys)
    if not isinstance(points, (list, tuple)):
        raise BadValue(points)
    check_values(points)
    check_measured(kind)


def check_measured(kind):
    """An error for a kind that has no distances."""
    if not isinstance(kind, Measured):
        raise NotGiven("distance")


def bound_to(kind, point, bound):
    """The bound of a label for this point, by what is passed, or by the kind if that is None: a grid may be False."""
    if bound is None:
        return lambda label: kind.bound(label, point)
    return lambda label: bound(label, point)


def hunt_for(tree, point, many, bound):
    """The hunt for so many nearest rows, when it is over."""
    check_values([point])
    if not is_int(many) or many < 0:
        raise BadCount(many)
    check_measured(tree.kind)
    hunt = Hunt(tree, point, many, bound_to(tree.kind, point, bound))
    hunt.go_on()
    return hunt


def wrong_bounds(kind, reach, points):
    """For each reached pair (label, key) with a bound above the distance the first point at which this is so."""
    given = list(reach.owned)
    rows = [indexes_in(bits) for bits in keys_below(reach)]
    wrong = {}
    for point in points:
        distances = [kind.distance(key, point) for key in given]
        for label, row in zip(reach.joins.reached, rows):
            bound = kind.bound(label, point)
            for key in [given[at] for at in row if distances[at] < bound]:
                wrong.setdefault((label, key), point)
    return wrong


def least_distances(kind, reach, points):
    """The least distance at each place (label, point), as tuples (place, distance) in ascending order of repr."""
    given = list(reach.owned)
    rows = [indexes_in(bits) for bits in keys_below(reach)]
    least = {}
    for point in points:
        distances = [kind.distance(key, point) for key in given]
        for label, row in zip(reach.joins.reached, rows):
            least[label, point] = min([distances[at] for at in row])
    return [(place, least[place]) for place in by_repr(list(least))]
