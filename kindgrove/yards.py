"""Yards: trees in which puts and searches go on at the same time, by steps."""

from kindgrove.errors import BadCount, BadValue, NoRow
from kindgrove.ground import Plan, empty_ground, view_of_ground
from kindgrove.stages import PutStage, SearchStage
from kindgrove.trees import GREATEST_WIDTH, LEAST_WIDTH
from kindgrove.values import is_int, is_plain
from kindgrove.works import Put, Search, do_all_steps


class Yard:
    """Rows with keys of one kind below nodes that stand in levels, and the works in it.

    A step takes over a new ground at its end: one that raises an error changes nothing.
    """

    def __init__(self, kind, *, most=4, linked=True):
        if not is_int(most) or not LEAST_WIDTH <= most <= GREATEST_WIDTH:
            raise BadCount(most)
        self.plan = Plan(kind, most, linked)
        self.ground = empty_ground()

    def put(self, key):
        """Makes a put, which gets its number; no step of it is done."""
        if not is_plain(key):
            raise BadValue(key)
        number = len(self.plan.row_keys)
        self.plan.row_keys.append(key)
        return Put(self, PutStage(number))

    def seek(self, question):
        """Makes a search; no step of it is done."""
        if not is_plain(question):
            raise BadValue(question)
        return Search(self, SearchStage(question))

    def view(self):
        """A list for each level, the leaves first, with a tuple (entries, mark, is_open, is_posted) for each node."""
        return view_of_ground(self.ground)

    def find(self, question):
        """The numbers that a search tells that is made and run at once, ascending."""
        work = self.seek(question)
        do_all_steps(work)
        return sorted(work.told)

    def run(self, work):
        """Does steps until a work is done; returns how many."""
        return do_all_steps(work)

    def key_of(self, number):
        """The key of a put, whether its row is there already or not."""
        if not is_int(number) or not 0 <= number < len(self.plan.row_keys):
            raise NoRow(number)
        return self.plan.row_keys[number]

    @property
    def counter(self):
        """What the counter stands at."""
        return self.ground.ticks

    @property
    def height(self):
        """The number of levels."""
        return len(self.ground.levels)

    @property
    def widest(self):
        """The greatest number of entries that a node may have."""
        return self.plan.most

    @property
    def linked(self):
        """Whether searches go on to the next node to the right."""
        return self.plan.has_links
