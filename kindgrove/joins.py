"""Labels that are closed under join, with the table of all their joins."""

from kindgrove.errors import TooMany
from kindgrove.labels import joined


class Joins:
    """Some labels, told by indexes from here on, and their joins.

    rows[x][y] is the index of the join of the labels x and y.
    """

    def __init__(self, reached, rows):
        self.reached = reached
        self.rows = rows
        self.spots = {label: at for at, label in enumerate(reached)}

    def index_with(self, label, most):
        """The index of a label, which is taken in if it is not there yet; an error if there is no room for it."""
        if label not in self.spots:
            if len(self.reached) == most:
                raise TooMany()
            self.spots[label] = len(self.reached)
            self.reached.append(label)
        return self.spots[label]


def closed_with(kind, joins, label, most):
    """The joins of these labels, of one more, and of all that are reached from them; the old ones stay as they are."""
    if label in joins.spots:
        return joins
    grown = Joins(list(joins.reached), [list(row) for row in joins.rows])
    grown.index_with(label, most)
    while len(grown.rows) < len(grown.reached):
        join_next(kind, grown, most)
    return grown


def join_next(kind, grown, most):
    """Joins the first label that has no row with those ahead of it, both ways, and with itself."""
    at = len(grown.rows)
    label = grown.reached[at]
    for before in range(at):
        result = joined(kind, grown.reached[before], label)
        grown.rows[before].append(grown.index_with(result, most))
    row = []
    for other in range(at + 1):
        result = joined(kind, label, grown.reached[other])
        row.append(grown.index_with(result, most))
    grown.rows.append(row)
