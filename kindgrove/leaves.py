"""The least numbers of leaves of terms. Labels are told by their indexes in a table of joins."""


class Leaves:
    """For the joins of all reached labels and for the own labels: how many leaves a term needs at least.

    fewest has the number for each label; steps has for each label those that it becomes by one further join, with the
    least number of leaves that this adds.
    """

    def __init__(self, rows, owned):
        self.fewest = fewest_leaves(rows, owned)
        self.steps = least_steps(rows, self.fewest)
        self.found = {}

    def from_own(self, start):
        """The least numbers for the labels of terms with a leaf that has the own label start, reckoned once."""
        if start not in self.found:
            self.found[start] = fewest_from(self.steps, start)
        return self.found[start]


def fewest_leaves(rows, owned):
    """The least number of leaves for each label.

    A term has more leaves than each of its parts: so the least number that is still open is right.
    """
    still_open = {start: 1 for start in owned}
    final = {}
    while len(still_open) > 0:
        at = least_of(still_open)
        final[at] = still_open.pop(at)
        for other in final:
            many = final[at] + final[other]
            for label in (rows[at][other], rows[other][at]):
                if label not in final:
                    lessen(still_open, label, many)
    return final


def least_steps(rows, fewest):
    """For each label those that it becomes by one join with any label, with the least number of leaves of that one."""
    steps = [{} for row in rows]
    for one, row in enumerate(rows):
        for other, label in enumerate(row):
            lessen(steps[one], label, fewest[other])
            lessen(steps[other], label, fewest[one])
    return steps


def fewest_from(steps, start):
    """The least number of leaves for each label that is reached by steps from the label of one leaf."""
    still_open = {start: 1}
    final = {}
    while len(still_open) > 0:
        at = least_of(still_open)
        final[at] = still_open.pop(at)
        for label, more in steps[at].items():
            if label not in final:
                lessen(still_open, label, final[at] + more)
    return final


def least_of(numbers):
    """The key of a dict with the least number."""
    return min(list(numbers), key=lambda at: numbers[at])


def lessen(numbers, at, many):
    """Sets a number in a dict, if it is new or less than the one before."""
    if at not in numbers or many < numbers[at]:
        numbers[at] = many
