"""The least numbers of leaves of terms, and such terms. Labels are told by their indexes in a table of joins."""


class Leaves:
    """For the joins of all reached labels and for the own labels: terms with as few leaves as possible.

    terms has for each label (number, one, other): how many leaves a term needs at least, and the labels that such a
    term joins; these are None for the label of a key. steps has for each label those that it becomes by one further
    join, each with (number, side, other): how many leaves this adds at least, on which side of the join the label
    itself stands, and the label on the other side.
    """

    def __init__(self, rows, owned):
        self.terms = least_terms(rows, owned)
        self.steps = least_steps(rows, self.terms)
        self.found = {}

    def from_own(self, start):
        """For each label of a term with a leaf that has the own label start: (number, before, side, other).

        The number is the least one; the label is reached from the label before by a join with the other one. For the
        start itself nothing is before. This is reckoned once.
        """
        if start not in self.found:
            self.found[start] = least_from(self.steps, start)
        return self.found[start]


def least_terms(rows, owned):
    """The terms of Leaves: a term has more leaves than each of its parts, so the least one still open is right."""
    still_open = {start: (1, None, None) for start in owned}
    final = {}
    while len(still_open) > 0:
        at = least_of(still_open)
        final[at] = still_open.pop(at)
        for known in final:
            many = final[at][0] + final[known][0]
            for one, other in ((at, known), (known, at)):
                label = rows[one][other]
                if label not in final:
                    lessen(still_open, label, (many, one, other))
    return final


def least_steps(rows, terms):
    """The steps of Leaves."""
    steps = [{} for row in rows]
    for one, row in enumerate(rows):
        for other, label in enumerate(row):
            lessen(steps[one], label, (terms[other][0], 0, other))
            lessen(steps[other], label, (terms[one][0], 1, one))
    return steps


def least_from(steps, start):
    """The labels that are reached by steps from the label of one leaf, as from_own of Leaves tells them."""
    still_open = {start: (1, None, None, None)}
    final = {}
    while len(still_open) > 0:
        at = least_of(still_open)
        final[at] = still_open.pop(at)
        for label, (more, side, other) in steps[at].items():
            if label not in final:
                lessen(still_open, label, (final[at][0] + more, at, side, other))
    return final


def least_of(known):
    """The key of a dict of tuples for which the first number in the tuple is least."""
    return min(list(known), key=lambda at: known[at][0])


def lessen(known, at, told):
    """Sets a tuple in a dict, if it is new or its first number is less than the one before."""
    if at not in known or told[0] < known[at][0]:
        known[at] = told
