"""How a node is divided into halves."""


def halves_by(marks):
    """0 for the first half, rounded down, of the indexes by ascending marks, and 1 for the others.

    Indexes with equal marks stand in ascending order.
    """
    order = sorted(list(range(len(marks))), key=lambda at: (marks[at], at))
    first = {at: True for at in order[:len(marks) // 2]}
    return [0 if at in first else 1 for at in range(len(marks))]
