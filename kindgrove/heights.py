"""The least height of a tree in which a search misses a row. Labels are told by their indexes in a table of joins."""


def lowest_miss(rows, owned, bad):
    """The least height of a tree in which an entry above a leaf with some key has a label that is bad for this key.

    owned has the own label of each key, bad for each label the keys, as bits. Some tree has to have such an entry.
    """
    below = {}
    for at, spot in enumerate(owned):
        below[spot] = below.get(spot, 0) | (1 << at)
    fresh = list(below)
    height = 1
    is_found = False
    while not is_found:
        folds = folds_of(rows, below, fresh)
        fresh = [spot for spot in folds if folds[spot] != below.get(spot, 0)]
        below = folds
        height += 1
        is_found = any([bits & bad[spot] != 0 for spot, bits in below.items()])
    return height


def folds_of(rows, below, fresh):
    """The labels of entries over nodes that have entries with these labels, with the keys below them as bits.

    fresh are the labels that were not there, or had fewer keys, a level lower: joins with another one are there.
    """
    folds = dict(below)
    grown = {}
    for one in below:
        for other in fresh:
            widen(folds, rows[one][other], below[one] | below[other], grown)
    while len(grown) > 0:
        before = list(grown)
        grown = {}
        for one in before:
            for other in below:
                widen(folds, rows[one][other], folds[one] | below[other], grown)
    return folds


def widen(folds, spot, bits, grown):
    """Adds keys to those of a label; notes the label if some of them are new."""
    known = folds.get(spot, 0)
    if known | bits != known:
        folds[spot] = known | bits
        grown[spot] = True
