"""Verdicts: whether searches in trees of a kind find every row, and what shows that they do not."""

from kindgrove.cases import Case, Needs, check_values, distinct, indexes_in
from kindgrove.claims import claim_of, is_closed, lets_all_by, table_of
from kindgrove.grids import Grid
from kindgrove.heights import lowest_miss
from kindgrove.recipes import shortest_with
from kindgrove.values import by_repr


def is_exact(kind, keys, questions, rule=None):
    """Whether the kind, or a rule in the place of its consistent, lets by all that it has to."""
    case = Case(kind, keys, questions)
    test = rule_of(kind, rule)
    for spot, at in Needs(case).sharp:
        if not test(case.reached[spot], case.asked[at]):
            return False
    return True


def miss(kind, keys, questions):
    """A tuple (recipe, way, question) that shows that the kind is not exact, with as few rows as possible, or None."""
    case = Case(kind, keys, questions)
    needs = Needs(case)
    places = failing_places(case, needs)
    if len(places) == 0:
        return None
    label, key = fewest_rows(case, lost_keys(needs, places))
    spot = case.reach.spot_of(label)
    left_out = [case.asked[at] for failing, at in places if failing == spot]
    matched = [question for question in left_out if kind.matches(key, question)]
    recipe, way = shortest_with(case.reach, label, key)
    return (recipe, way, matched[0])


def is_miss(kind, keys, questions, thing):
    """Whether any object is a miss, with as few rows as possible or more."""
    check_values(keys)
    check_values(questions)
    claim = claim_of(kind, keys, questions, thing)
    if claim is None:
        return False
    label, key, question = claim
    return kind.matches(key, question) and not kind.consistent(label, question)


def is_table(kind, keys, questions, thing):
    """Whether any object is a closed table: a proof that the kind is exact."""
    check_values(keys)
    check_values(questions)
    given = distinct(keys)
    below = table_of(given, thing)
    if below is None or not is_closed(kind, given, below):
        return False
    return lets_all_by(kind, given, questions, below)


def sharpest(kind, keys, questions):
    """The grid that is True where every rule has to be with which the kind is exact."""
    case = Case(kind, keys, questions)
    return true_at(case, Needs(case).sharp)


def mended(kind, keys, questions):
    """The grid that is True where consistent or the sharpest rule is, for reached labels."""
    case = Case(kind, keys, questions)
    let_by = [(spot, at) for spot, bits in enumerate(case.lets_by()) for at in indexes_in(bits)]
    return true_at(case, let_by + Needs(case).sharp)


def lowest(kind, keys, questions):
    """The least height of a tree in which a search misses a row, or None."""
    case = Case(kind, keys, questions)
    needs = Needs(case)
    places = failing_places(case, needs)
    if len(places) == 0:
        return None
    return lowest_miss(case.reach.joins.rows, list(case.reach.owned.values()), lost_keys(needs, places))


def rule_of(kind, rule):
    """The rule, or the consistent of the kind if it is None: a rule may be a grid, which may be False itself."""
    if rule is None:
        return lambda label, question: kind.consistent(label, question)
    return rule


def failing_places(case, needs):
    """Those of the sharp places at which the label is not consistent with the question."""
    return [(spot, at) for spot, at in needs.sharp if not case.kind.consistent(case.reached[spot], case.asked[at])]


def lost_keys(needs, places):
    """For each reached label those keys below it that match the question of one of these places, as bits."""
    lost = [0 for bits in needs.below]
    for spot, at in places:
        lost[spot] = lost[spot] | (needs.below[spot] & needs.matched[at])
    return lost


def fewest_rows(case, lost):
    """Of the pairs (label, key) with one of the lost keys of the label the one that needs the fewest rows."""
    reach = case.reach
    given = list(reach.owned)
    pairs = [(case.reached[spot], given[at]) for spot, bits in enumerate(lost) for at in indexes_in(bits)]
    return min(pairs, key=lambda pair: reach.least_with(pair[0], pair[1]))


def true_at(case, places):
    """A grid of flags that is True at these places, which are told by indexes, in ascending order of their repr."""
    grid = Grid()
    for place in by_repr([(case.reached[spot], case.asked[at]) for spot, at in places]):
        grid[place] = True
    return grid
