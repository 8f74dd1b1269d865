"""Kinds compared: which labels a search can tell apart, and which trees two kinds search alike."""

from kindgrove.alike import context_between, rounds_of, turned_by
from kindgrove.cases import Case, indexes_in
from kindgrove.merging import Merged, Pairing
from kindgrove.reach import Reach
from kindgrove.recipes import shortest
from kindgrove.values import by_repr, is_int, is_plain


def classes(kind, keys, questions):
    """The classes of alike labels, in ascending order of the repr of their first labels."""
    case = Case(kind, keys, questions)
    return [[case.reached[spot] for spot in spots] for spots in classes_of(case)]


def parting(kind, keys, questions, one, other):
    """A tuple (context, question) that parts two labels, with as few steps as possible, or None."""
    case = Case(kind, keys, questions)
    rows = case.reach.joins.rows
    first = case.reach.spot_of(one)
    second = case.reach.spot_of(other)
    let_by = case.lets_by()
    context = context_between(rows, rounds_of(rows, let_by), first, second)
    if context is None:
        return None
    unlike = let_by[behind(rows, context, first)] ^ let_by[behind(rows, context, second)]
    return ([(side, case.reached[spot]) for side, spot in context], case.asked[indexes_in(unlike)[0]])


def is_parting(kind, keys, questions, one, other, thing):
    """Whether any object is a tuple (context, question) that parts two labels, with as few steps or more."""
    case = Case(kind, keys, questions)
    rows = case.reach.joins.rows
    first = case.reach.spot_of(one)
    second = case.reach.spot_of(other)
    if not has_form(case, thing):
        return False
    context = [(side, case.reach.spot_of(label)) for side, label in thing[0]]
    ends = [case.reached[behind(rows, context, spot)] for spot in (first, second)]
    let_by = [kind.consistent(label, thing[1]) for label in ends]
    return let_by[0] != let_by[1]


def merged(kind, keys, questions):
    """A kind for the same keys and questions whose labels are the indexes of the classes of alike labels."""
    case = Case(kind, keys, questions)
    found = classes_of(case)
    numbers = {spot: number for number, spots in enumerate(found) for spot in spots}
    first = [spots[0] for spots in found]
    owned = {key: numbers[spot] for key, spot in case.reach.owned.items()}
    rows = case.reach.joins.rows
    table = [[numbers[rows[one][other]] for other in first] for one in first]
    return Merged(kind, owned, table, [case.reached[spot] for spot in first])


def parted(one, other, keys, questions):
    """A tuple (recipe, question) for which two kinds answer unlike, with as few rows as possible, or None."""
    return first_apart(one, other, keys, questions, lambda first, second: first ^ second)


def opens_more(one, other, keys, questions):
    """A tuple (recipe, question) for which the first kind alone is consistent, with the fewest rows, or None."""
    return first_apart(one, other, keys, questions, lambda first, second: first & ~second)


def classes_of(case):
    """The classes of alike labels, told by their indexes: labels, and classes by their first ones, ascend by repr."""
    numbers = rounds_of(case.reach.joins.rows, case.lets_by())[-1]
    found = {}
    for label in by_repr(case.reached):
        spot = case.reach.spot_of(label)
        found.setdefault(numbers[spot], []).append(spot)
    return list(found.values())


def behind(rows, context, spot):
    """What a context makes of a label, all told by indexes."""
    for side, label in context:
        spot = turned_by(rows, spot, side, label)
    return spot


def has_form(case, thing):
    """Whether any object is a tuple of a context and one of the questions."""
    if not isinstance(thing, tuple) or len(thing) != 2 or not isinstance(thing[0], list):
        return False
    if not is_plain(thing[1]) or thing[1] not in case.asked:
        return False
    return all([is_step(case, step) for step in thing[0]])


def is_step(case, thing):
    """Whether any object is a step (side, label) of a context."""
    if not isinstance(thing, tuple) or len(thing) != 2:
        return False
    side, label = thing
    return is_int(side) and 0 <= side <= 1 and case.reach.has_label(label)


def first_apart(one, other, keys, questions, apart):
    """A recipe with as few rows as possible, and a question for which both kinds answer apart; None if there is none.

    apart tells the questions for which they do by those with which the labels are consistent, all as bits.
    """
    first = Case(one, keys, questions)
    second = Case(other, keys, questions)
    both = Reach(Pairing(first.reach, second.reach), keys)
    let_by = first.lets_by()
    let_by_other = second.lets_by()
    found = {pair: apart(let_by[pair[0]], let_by_other[pair[1]]) for pair in both.labels()}
    unlike = [pair for pair in found if found[pair] != 0]
    if len(unlike) == 0:
        return None
    pair = min(unlike, key=lambda spots: both.least(spots))
    return (shortest(both, pair), first.asked[indexes_in(found[pair])[0]])
