"""Weavings: the orders in which steps of works are done, and whether a search goes wrong in one of them."""

from kindgrove.errors import BadCount, BadOrder, BadValue, TooMany
from kindgrove.scenes import Scene, check_scene, outcome_of
from kindgrove.values import by_repr, is_int

GREATEST_LIMIT = 20000


def play(kind, keys, works, order, *, most=4, linked=True):
    """For each work what it has come to behind an order of steps: None if it is not done."""
    check_scene(keys, works, most)
    if not isinstance(order, (list, tuple)):
        raise BadOrder(-1)
    scene, moment = scene_behind(kind, keys, works, order, most, linked)
    return outcome_of(moment)


def weavings(kind, keys, works, *, most=4, linked=True, limit=2000):
    """The different outcomes of all weavings by which all works are done, in ascending order of their repr."""
    check_scene(keys, works, most)
    check_limit(limit)
    states = States(Scene(kind, keys, works, most, linked), limit)
    outcomes = {}
    while len(states.newest) > 0:
        for moment, weaving in states.newest:
            if moment.is_ended():
                outcomes[outcome_of(moment)] = True
        states.take(states.further())
    states.check_labels()
    return by_repr(list(outcomes))


def first_miss(kind, keys, works, *, most=4, linked=True, limit=2000):
    """A weaving behind which a search that is done has gone wrong, with the fewest steps, or None."""
    check_scene(keys, works, most)
    check_limit(limit)
    scene = Scene(kind, keys, works, most, linked)
    states = States(scene, limit)
    missed = []
    while len(states.newest) > 0 and len(missed) == 0:
        further = states.further()
        missed = [weaving for moment, weaving in further if scene.is_miss(moment, weaving[-1])]
        if len(missed) == 0:
            states.take(further)
    states.check_labels()
    return missed[0] if len(missed) > 0 else None


def is_miss_weaving(kind, keys, works, thing, *, most=4, linked=True):
    """Whether any object is a weaving behind which a search that is done has gone wrong."""
    check_scene(keys, works, most)
    if not isinstance(thing, tuple):
        return False
    try:
        scene, moment = scene_behind(kind, keys, works, thing, most, linked)
    except BadOrder:
        return False
    return any([scene.is_miss(moment, at) for at in range(len(works))])


class States:
    """The states to which weavings of a scene lead, gone through by their numbers of steps.

    newest has those that are reached by so many steps and by no fewer: (moment, weaving).
    """

    def __init__(self, scene, limit):
        self.scene = scene
        self.limit = limit
        self.seen = {scene.start.state(): True}
        self.newest = [(scene.start, ())]
        self.wrong = []

    def further(self):
        """What each step of each work leads to from the newest states: (moment, weaving)."""
        found = []
        for moment, weaving in self.newest:
            for at, stage in enumerate(moment.stages):
                if not stage.done:
                    found.extend([(behind, (*weaving, at)) for behind in self.behind_step(moment, at)])
        return found

    def behind_step(self, moment, at):
        """A list of the moment behind one more step, without it if the step needs a label that is no plain value.

        Such a label is told when all states are there: if they are too many, that is told instead.
        """
        try:
            return [self.scene.moment_behind(moment, at)]
        except BadValue as error:
            self.wrong.append(error.value)
            return []

    def take(self, found):
        """Takes over the states among some moments that were not there before, as the newest ones."""
        self.newest = []
        for moment, weaving in found:
            state = moment.state()
            if state not in self.seen:
                self.seen[state] = True
                self.newest.append((moment, weaving))
                if len(self.seen) > self.limit:
                    raise TooMany()

    def check_labels(self):
        """An error for the first label that was no plain value."""
        if len(self.wrong) > 0:
            raise BadValue(self.wrong[0])


def check_limit(limit):
    """An error for what is no limit for the number of states."""
    if not is_int(limit) or not 1 <= limit <= GREATEST_LIMIT:
        raise BadCount(limit)


def scene_behind(kind, keys, works, order, most, linked):
    """A scene, and the moment in it behind an order of steps.

    If the order goes wrong, that is told ahead of a label that is no plain value, wherever in the order it does.
    """
    finished = [False for work in works]
    try:
        scene = Scene(kind, keys, works, most, linked)
    except BadValue:
        check_order(order, 0, finished)
        raise
    moment = scene.start
    for place, at in enumerate(order):
        finished = [stage.done for stage in moment.stages]
        if not is_unfinished(at, finished):
            raise BadOrder(place)
        try:
            moment = scene.moment_behind(moment, at)
        except BadValue:
            check_order(order, place, finished)
            raise
    return (scene, moment)


def check_order(order, start, finished):
    """An error for the first item, from one on, that is not the index of a work that is not finished."""
    for place in range(start, len(order)):
        if not is_unfinished(order[place], finished):
            raise BadOrder(place)


def is_unfinished(thing, finished):
    """Whether any object is the index of a work that is not finished."""
    return is_int(thing) and 0 <= thing < len(finished) and not finished[thing]
