"""Works: puts and searches that go on in a yard step by step."""

from kindgrove.errors import Finished


class Put:
    """A put, made by a yard."""

    def __init__(self, yard, stage):
        self.yard = yard
        self.stage = stage

    def step(self):
        """Does one step; returns whether the put is done."""
        return do_step(self)

    @property
    def is_begun(self):
        """Whether the first step was done."""
        return self.stage.begun

    @property
    def is_done(self):
        """Whether the last step was done."""
        return self.stage.done

    @property
    def row_number(self):
        """The number of the row."""
        return self.stage.number

    @property
    def row_key(self):
        """The key of the row."""
        return self.yard.plan.row_keys[self.stage.number]


class Search:
    """A search, made by a yard."""

    def __init__(self, yard, stage):
        self.yard = yard
        self.stage = stage

    def step(self):
        """Does one step; returns whether the search is done."""
        return do_step(self)

    @property
    def is_begun(self):
        """Whether the first step was done."""
        return self.stage.begun

    @property
    def is_done(self):
        """Whether the last step was done."""
        return self.stage.done

    @property
    def question(self):
        """What is searched."""
        return self.stage.wanted

    @property
    def told(self):
        """The numbers of the rows that the search has told so far, in its order."""
        return list(self.stage.found)


def do_step(work):
    """Does one step of a work; returns whether it is done. An error changes nothing."""
    if work.stage.done:
        raise Finished()
    yard = work.yard
    ground, stage = work.stage.after(yard.plan, yard.ground)
    yard.ground = ground
    work.stage = stage
    return stage.done


def do_all_steps(work):
    """Does the steps of a work until it is done; returns how many. An error in the midst takes all of them back."""
    yard = work.yard
    ground = yard.ground
    stage = work.stage
    many = 0
    while not stage.done:
        ground, stage = stage.after(yard.plan, ground)
        many += 1
    yard.ground = ground
    work.stage = stage
    return many
