"""Scenes: works that are woven in a yard, and what they lead to."""

from kindgrove.cases import check_values
from kindgrove.errors import BadCount, BadValue, BadWork
from kindgrove.stages import PutStage
from kindgrove.trees import GREATEST_WIDTH, LEAST_WIDTH
from kindgrove.values import is_int, is_plain
from kindgrove.yards import Yard

MOST_WORKS = 6


class Moment:
    """What there is behind a weaving: the ground, and for each work its stage and what was done before it began.

    earlier has for each search that is begun the numbers of the puts of the scene that were done before, otherwise
    None.
    """

    def __init__(self, ground, stages, earlier):
        self.ground = ground
        self.stages = stages
        self.earlier = earlier

    def is_ended(self):
        """Whether all works are done."""
        return all([stage.done for stage in self.stages])

    def state(self):
        """What tells this moment from others of the same scene."""
        places = self.ground.known_places()
        return (self.ground.text(), tuple([stage.sign(places) for stage in self.stages]), tuple(self.earlier))


class Scene:
    """A yard into which some keys are put, and works in it of which no step is done."""

    def __init__(self, kind, keys, works, most, linked):
        yard = Yard(kind, most=most, linked=linked)
        for key in keys:
            yard.run(yard.put(key))
        self.plan = yard.plan
        self.many_keys = len(keys)
        made = [yard.put(told) if name == "put" else yard.seek(told) for name, told in works]
        self.start = Moment(yard.ground, [work.stage for work in made], [None for work in made])

    def moment_behind(self, moment, at):
        """The moment behind one more step of a work that is not done."""
        stage = moment.stages[at]
        ground, further = stage.after(self.plan, moment.ground)
        earlier = list(moment.earlier)
        if not stage.begun and not isinstance(stage, PutStage):
            earlier[at] = tuple([put.number for put in moment.stages if isinstance(put, PutStage) and put.done])
        stages = list(moment.stages)
        stages[at] = further
        return Moment(ground, stages, earlier)

    def is_miss(self, moment, at):
        """Whether a work is a search that is done and has told other rows than it has to."""
        stage = moment.stages[at]
        if isinstance(stage, PutStage) or not stage.done:
            return False
        told = {number: True for number in stage.found}
        if len(told) < len(stage.found) or not all([self.matches_row(number, stage.wanted) for number in told]):
            return True
        sought = list(range(self.many_keys)) + list(moment.earlier[at])
        return not all([number in told or not self.matches_row(number, stage.wanted) for number in sought])

    def matches_row(self, number, question):
        """Whether the key of a row matches."""
        return self.plan.kind.matches(self.plan.row_keys[number], question)


def outcome_of(moment):
    """For each work what it has come to: None if it is not done."""
    return tuple([result_of(stage) for stage in moment.stages])


def result_of(stage):
    """The number of a put, or the numbers that a search has told, ascending; None if it is not done."""
    if not stage.done:
        return None
    return stage.number if isinstance(stage, PutStage) else tuple(sorted(stage.found))


def check_scene(keys, works, most):
    """The errors for what tells a scene."""
    if not isinstance(keys, (list, tuple)):
        raise BadValue(keys)
    check_values(keys)
    if not isinstance(works, (list, tuple)) or len(works) > MOST_WORKS:
        raise BadWork(-1)
    for at, work in enumerate(works):
        if not is_work(work):
            raise BadWork(at)
    if not is_int(most) or not LEAST_WIDTH <= most <= GREATEST_WIDTH:
        raise BadCount(most)


def is_work(thing):
    """Whether any object tells a put or a search."""
    if not isinstance(thing, tuple) or len(thing) != 2 or not isinstance(thing[0], str):
        return False
    return (thing[0] == "put" or thing[0] == "search") and is_plain(thing[1])
