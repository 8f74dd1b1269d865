"""Which labels no context parts. Labels are told by their indexes in a table of joins."""


def rounds_of(rows, marks):
    """A list of rounds, each a list with the number of a class for each label.

    Labels have one class in the first round if their marks are equal, and in the round n if no context of at most n
    steps leads from them to labels with unlike marks. No context at all parts the labels of a class of the last round.
    """
    rounds = [numbered(marks)]
    turned = [row + [other[at] for other in rows] for at, row in enumerate(rows)]
    is_finer = True
    while is_finer:
        last = rounds[-1]
        signs = [(last[at], *[last[spot] for spot in turned[at]]) for at in range(len(rows))]
        finer = numbered(signs)
        is_finer = many_classes(finer) > many_classes(last)
        if is_finer:
            rounds.append(finer)
    return rounds


def numbered(marks):
    """A number for each mark, the same one for equal marks: 0 for the first mark, 1 for the next one unlike it."""
    numbers = {}
    for mark in marks:
        if mark not in numbers:
            numbers[mark] = len(numbers)
    return [numbers[mark] for mark in marks]


def many_classes(numbers):
    """How many different numbers there are, counted on from 0."""
    return max(numbers, default=-1) + 1


def context_between(rows, rounds, one, other):
    """A context (side, label) by (side, label) that leads from two labels to unlike marks, in as few steps as can be.

    None if there is no context.
    """
    if rounds[-1][one] == rounds[-1][other]:
        return None
    depth = 0
    while rounds[depth][one] == rounds[depth][other]:
        depth += 1
    context = []
    while depth > 0:
        depth -= 1
        side, label = step_between(rows, rounds[depth], one, other)
        context.append((side, label))
        one = turned_by(rows, one, side, label)
        other = turned_by(rows, other, side, label)
    return context


def step_between(rows, numbers, one, other):
    """The first step (side, label) that leads from two labels to unlike numbers."""
    steps = [(side, label) for label in range(len(rows)) for side in (0, 1)
             if numbers[turned_by(rows, one, side, label)] != numbers[turned_by(rows, other, side, label)]]
    return steps[0]


def turned_by(rows, spot, side, label):
    """What a step of a context makes of a label."""
    return rows[spot][label] if side == 0 else rows[label][spot]
