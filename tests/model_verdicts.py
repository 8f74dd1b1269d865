"""[6.1] to [6.5] in another way, and kinds by tables whose verdicts differ, to compare verdicts with."""

import random

from model_reach import plain_least, plain_reach, table_kind

from kindgrove.grids import Grid
from kindgrove.kinds import Calls


def judged_kind(seed, size, many, asked):
    """A kind of arbitrary labels and joins whose consistent is wrong at some places, its keys and its questions."""
    chance = random.Random(seed)
    inner, keys = table_kind(seed, size, many)
    labels, pairs = plain_reach(inner, keys)
    questions = [chance.choice([at, f"asked {at}", (at, ())]) for at in range(asked)]
    consistent, matches = Grid(), Grid()
    for key in keys:
        for question in questions:
            matches[key, question] = chance.random() < 0.4
    for label in sorted(labels, key=repr):
        for question in questions:
            is_wanted = any(matches[key, question] for other, key in pairs if other == label)
            wrong = chance.random() < [0, 0.02, 0.1, 0.5][seed % 4]
            consistent[label, question] = is_wanted != wrong or chance.random() < 0.2
    kind = Calls(own=inner.own, join=inner.join, consistent=consistent, matches=matches)
    return kind, keys, questions


def judged_cases(many):
    for seed in range(many):
        yield judged_kind(seed, 1 + seed % 9, seed % 5, 1 + seed % 4)


def plain_bad(kind, keys, questions, rule=None):
    """The set of all (label, key, question) at which a kind is not exact."""
    rule = kind.consistent if rule is None else rule
    return {(label, key, question) for label, key in plain_reach(kind, keys)[1] for question in questions
            if kind.matches(key, question) and not rule(label, question)}


def plain_miss_rows(kind, keys, questions):
    """The number of rows of the least miss, or None."""
    least_with = plain_least(kind, keys)[1]
    return min((least_with[label, key] for label, key, _ in plain_bad(kind, keys, questions)), default=None)


def plain_sharpest(kind, keys, questions):
    """The set of places of the sharpest rule."""
    return {(label, question) for label, key in plain_reach(kind, keys)[1] for question in questions
            if kind.matches(key, question)}


def plain_lowest(kind, keys, questions):
    """[6.5] word by word: labels and pairs level by level, joined from the left, until nothing is new."""
    bad = {(label, key) for label, key, _ in plain_bad(kind, keys, questions)}
    lower = {(kind.own(key), key) for key in keys}
    height = 1
    while True:
        height += 1
        upper = joined_from_the_left(kind, lower)
        if upper & bad:
            return height
        if upper == lower:
            return None
        lower = upper


def joined_from_the_left(kind, lower):
    """The pairs one level higher than these."""
    labels = {label for label, _ in lower}
    upper = set(lower)
    waiting = list(lower)
    while waiting:
        one, key = waiting.pop()
        held = {other for other, _ in upper}
        more = {(kind.join(one, other), key) for other in labels}
        more |= {(kind.join(other, below), held_key) for other in held for below, held_key in lower}
        waiting += list(more - upper)
        upper |= more
    return upper


def plain_value(kind, recipe):
    """The value of the last step by the term itself: [own, key] or [join, term, term]."""
    def value_at(at):
        step = recipe[at]
        if step[0] == "own":
            return kind.own(step[1])
        return kind.join(value_at(step[1]), value_at(step[2]))

    return value_at(len(recipe) - 1)


def leaves_of(recipe):
    """The keys of the leaves of the term, from left to right."""
    def leaves_at(at):
        step = recipe[at]
        return [step[1]] if step[0] == "own" else leaves_at(step[1]) + leaves_at(step[2])

    return leaves_at(len(recipe) - 1)
