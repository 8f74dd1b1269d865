"""The labels that a kind gives, each one checked: a kind may return anything."""

from kindgrove.errors import BadValue
from kindgrove.values import is_plain


def own_label(kind, key):
    """The label of a key."""
    return checked(kind.own(key))


def joined(kind, one, other):
    """The join of two labels."""
    return checked(kind.join(one, other))


def folded(kind, labels):
    """The first label, joined with the second one, this joined with the third one, and so on."""
    label = labels[0]
    for other in labels[1:]:
        label = joined(kind, label, other)
    return label


def checked(label):
    """The label itself, if it is a plain value."""
    if not is_plain(label):
        raise BadValue(label)
    return label
