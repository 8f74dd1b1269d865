"""Recipes: terms with shared parts, written as tuples of steps."""

from kindgrove.errors import BadRecipe, BadWay, TooLarge
from kindgrove.labels import joined, own_label
from kindgrove.shapes import HIGHEST, MOST_ROWS
from kindgrove.values import is_int, is_plain

MOST_STEPS = 400


def value(kind, recipe):
    """The label that a recipe has."""
    check_recipe(recipe)
    labels = []
    for step in recipe:
        if is_own(step):
            labels.append(own_label(kind, step[1]))
        else:
            labels.append(joined(kind, labels[step[1]], labels[step[2]]))
    return labels[-1]


def rows(recipe):
    """The number of leaves of a recipe's term."""
    check_recipe(recipe)
    return rows_by_step(recipe)[-1]


def key_at(recipe, way):
    """The key to which a way leads."""
    check_recipe(recipe)
    if not isinstance(way, tuple):
        raise BadWay(-1)
    step = recipe[-1]
    for at, turn in enumerate(way):
        if not is_int(turn) or not 0 <= turn <= 1 or is_own(step):
            raise BadWay(at)
        step = recipe[step[1 + turn]]
    if not is_own(step):
        raise BadWay(len(way))
    return step[1]


def shortest(reach, label):
    """A recipe with this value and as few rows as possible."""
    spot = reach.spot_of(label)
    steps, places = steps_to(reach, [spot])
    return tuple(steps)


def shortest_with(reach, label, key):
    """A recipe with this value and as few rows as possible among those with the key as a leaf, and a way to it."""
    found = reach.terms_with(label, key)
    turns = turns_to(found, reach.spot_of(label))
    steps, places = steps_to(reach, [other for side, other in turns])
    last = len(steps)
    steps.append(("own", key))
    for side, other in turns:
        parts = (last, places[other]) if side == 0 else (places[other], last)
        last = len(steps)
        steps.append(("join", *parts))
    return (tuple(steps), tuple([side for side, other in turns[::-1]]))


def shape_of(recipe):
    """The shape of a tree in which the recipe's term stands."""
    check_recipe(recipe)
    heights = heights_by_step(recipe)
    if rows_by_step(recipe)[-1] > MOST_ROWS or heights[-1] + 1 > HIGHEST:
        raise TooLarge()
    return [shape_of_step(recipe, heights, len(recipe) - 1)]


def check_recipe(thing):
    """An error if any object is not a recipe."""
    if not isinstance(thing, tuple) or not 1 <= len(thing) <= MOST_STEPS:
        raise BadRecipe(-1)
    for at, step in enumerate(thing):
        if not is_step(step, at):
            raise BadRecipe(at)


def is_step(thing, at):
    """Whether any object is a step that may stand at this index of a recipe."""
    if not isinstance(thing, tuple) or len(thing) == 0 or not isinstance(thing[0], str):
        return False
    if thing[0] == "own":
        return len(thing) == 2 and is_plain(thing[1])
    return thing[0] == "join" and len(thing) == 3 and all([is_int(part) and 0 <= part < at for part in thing[1:]])


def is_own(step):
    """Whether a step is the label of a key."""
    return step[0] == "own"


def own_keys(recipe):
    """The keys of all own steps of a recipe, also of those that its last step does not use."""
    return [step[1] for step in recipe if is_own(step)]


def rows_by_step(recipe):
    """The number of leaves of each step's term."""
    counts = []
    for step in recipe:
        counts.append(1 if is_own(step) else counts[step[1]] + counts[step[2]])
    return counts


def heights_by_step(recipe):
    """The height of each step's shape."""
    heights = []
    for step in recipe:
        heights.append(1 if is_own(step) else 1 + max(heights[step[1]], heights[step[2]]))
    return heights


def shape_of_step(recipe, heights, at):
    """The shape of one step, in new lists at each place where it stands."""
    step = recipe[at]
    if is_own(step):
        return [step[1]]
    return [lifted(shape_of_step(recipe, heights, part), heights[at] - 1 - heights[part]) for part in step[1:]]


def lifted(shape, many):
    """The shape inside so many lists of one element."""
    for more in range(many):
        shape = [shape]
    return shape


def steps_to(reach, spots):
    """Steps for these labels with as few rows as possible, and the index of the step for each label that they use.

    Labels are told by their indexes in the table of joins. A label needs more rows than those that it joins: so they
    stand ahead of it.
    """
    terms = reach.known_leaves().terms
    owners = {spot: key for key, spot in reach.owned.items()}
    steps = []
    places = {}
    for spot in sorted(labels_used(terms, spots), key=lambda at: terms[at][0]):
        many, one, other = terms[spot]
        places[spot] = len(steps)
        steps.append(("own", owners[spot]) if many == 1 else ("join", places[one], places[other]))
    return (steps, places)


def labels_used(terms, spots):
    """These labels and all that the terms for them are joined of."""
    used = {spot: True for spot in spots}
    waiting = list(used)
    while len(waiting) > 0:
        spot = waiting.pop()
        for part in terms[spot][1:]:
            if part is not None and part not in used:
                used[part] = True
                waiting.append(part)
    return list(used)


def turns_to(found, spot):
    """The joins (side, other) that lead from the label of a key to another label, by what is known of its terms."""
    turns = []
    many, before, side, other = found[spot]
    while before is not None:
        turns.append((side, other))
        many, before, side, other = found[before]
    return turns[::-1]
