"""[11.11], [11.12] All orders of steps of small scenes, done one after another in the model of a yard."""

from model_yard import ModelYard


class ModelScene:

    def __init__(self, kind, keys, works, most, linked):
        self.told = (kind, keys, works, most, linked)

    def behind(self, order):
        """The works behind an order of steps, done anew; None if a work of it is done before its turn."""
        kind, keys, works, most, linked = self.told
        yard = ModelYard(kind, most, linked)
        for key in keys:
            put = yard.put(key)
            while not put.is_done:
                put.step()
        made = [yard.put(told) if word == "put" else yard.seek(told) for word, told in works]
        for at in order:
            if made[at].is_done:
                return None
            if made[at].number is None and not made[at].is_begun:
                made[at].earlier = tuple(put.number for put in made if put.number is not None and put.is_done)
            made[at].step()
        return made

    def orders(self, order=()):
        """Every weaving with the works behind it, whether they are done or not."""
        made = self.behind(order)
        if made is not None:
            yield order, made
            for at in range(len(made)):
                yield from self.orders((*order, at))

    def outcome(self, made):
        """What play returns."""
        return tuple(None if not work.is_done else tuple(sorted(work.told)) if work.number is None else work.number
                     for work in made)

    def is_miss(self, made):
        kind, keys = self.told[:2]
        for work in made:
            if work.number is None and work.is_done:
                row_keys = work.yard.keys
                matching = {number for number, key in enumerate(row_keys) if kind.matches(key, work.question)}
                before = {*range(len(keys)), *work.earlier}
                if len(set(work.told)) < len(work.told) or not set(work.told) <= matching:
                    return True
                if not matching & before <= set(work.told):
                    return True
        return False

    def sign(self, made):
        """The state, with what is not told apart left out."""
        if not made:
            return ()
        yard = made[0].yard
        return repr((yard.view(), yard.counter, [work.sign() for work in made]))


class Summary:
    """All that weavings of a scene lead to: outcomes of those that end, the least miss, and states by their steps."""

    def __init__(self, scene):
        self.outcomes, self.least, self.steps, self.misses, self.others = set(), None, {}, [], []
        for order, made in scene.orders():
            sign = scene.sign(made)
            self.steps[sign] = min(self.steps.get(sign, len(order)), len(order))
            if all(work.is_done for work in made):
                self.outcomes.add(scene.outcome(made))
            if scene.is_miss(made):
                self.misses.append(order)
                self.least = len(order) if self.least is None else min(self.least, len(order))
            else:
                self.others.append(order)

    def states(self):
        return len(self.steps)

    def states_for_miss(self):
        """The states that first_miss counts."""
        if self.least is None:
            return len(self.steps)
        return len([sign for sign, many in self.steps.items() if many < self.least])
