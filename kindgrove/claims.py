"""What any object claims: that a recipe with a way is wrong in some way, or that a table is closed."""

from kindgrove.cases import distinct, matching_keys
from kindgrove.errors import BadRecipe, BadValue, BadWay
from kindgrove.labels import joined, own_label
from kindgrove.recipes import key_at, own_keys, value
from kindgrove.values import is_plain


def claim_of(kind, keys, lasts, thing):
    """For a tuple of a recipe, a way and one of some last things: (label, key, last). None for any other object.

    The keys of the recipe have to be among the keys, and all of its labels plain values.
    """
    if not isinstance(thing, tuple) or len(thing) != 3:
        return None
    recipe, way, last = thing
    if not is_plain(last) or last not in lasts:
        return None
    try:
        key = key_at(recipe, way)
    except (BadRecipe, BadWay):
        return None
    if not all([told in keys for told in own_keys(recipe)]):
        return None
    try:
        return (value(kind, recipe), key, last)
    except BadValue:
        return None


def table_of(keys, thing):
    """For each label in a list of tuples (label, key) the keys that stand with it, as bits. None for any other object.

    The keys in the list have to be among the keys, each of which is there once.
    """
    if not isinstance(thing, list):
        return None
    spots = {key: at for at, key in enumerate(keys)}
    below = {}
    for pair in thing:
        if not isinstance(pair, tuple) or len(pair) != 2 or not is_plain(pair[0]) or not is_plain(pair[1]):
            return None
        label, key = pair
        if key not in spots:
            return None
        below[label] = below.get(label, 0) | (1 << spots[key])
    return below


def is_closed(kind, keys, below):
    """Whether a table has the own labels of all keys, and is closed under join. Labels may fail to be plain values."""
    try:
        for at, key in enumerate(keys):
            if not below.get(own_label(kind, key), 0) & (1 << at):
                return False
        for one in below:
            for other in below:
                wanted = below[one] | below[other]
                if below.get(joined(kind, one, other), 0) & wanted != wanted:
                    return False
    except BadValue:
        return False
    return True


def lets_all_by(kind, keys, questions, below):
    """Whether each label in a table is consistent with each question that a key with it matches."""
    asked = distinct(questions)
    wanted = matching_keys(kind, keys, asked)
    for label, bits in below.items():
        for question, matched in zip(asked, wanted):
            if bits & matched and not kind.consistent(label, question):
                return False
    return True
