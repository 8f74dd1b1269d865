"""Kinds of integers by their rests, of strings by their stems, and of sets of integers by their signs."""

from kindgrove.errors import BadValue
from kindgrove.halves import halves_by
from kindgrove.kinds import Kind
from kindgrove.values import is_int

MOST_BITS = 60


class Rests(Kind):
    """Integers, below labels (modulus, rest): modulus 0 holds the rest alone."""

    def own(self, key):
        """The label of the key alone."""
        return (0, key)

    def join(self, one, other):
        """The label with the greatest modulus that holds both."""
        return common_rest(one, other)

    def consistent(self, label, question):
        """Whether an integer of the label has the rest that the question (modulus, rest) tells."""
        step = common_divisor(label[0], question[0])
        return (label[1] - question[1]) % step == 0

    def matches(self, key, question):
        """Whether the key has the rest that the question (modulus, rest) tells."""
        return key % question[0] == question[1]

    def penalty(self, label, key):
        """0 if the label stays as it is, otherwise 1."""
        return 0 if common_rest(label, (0, key)) == label else 1

    def sides(self, labels):
        """Halves in the order of the labels, as for any kind."""
        return super().sides(labels)


class Stems(Kind):
    """Strings, below the longest strings with which they all begin; a question is a beginning."""

    def own(self, key):
        """The key itself."""
        return key

    def join(self, one, other):
        """The longest string with which both begin."""
        return common_stem(one, other)

    def consistent(self, label, question):
        """Whether one of the two begins with the other one."""
        return label.startswith(question) or question.startswith(label)

    def matches(self, key, question):
        """Whether the key begins with the question."""
        return key.startswith(question)

    def penalty(self, label, key):
        """By how much the label grows shorter."""
        return len(label) - len(common_stem(label, key))

    def sides(self, labels):
        """Halves in the order of strings."""
        return halves_by(labels)


class Signs(Kind):
    """Sets of integers, as tuples, below the bits that stand for their integers; a question is a part of a set."""

    def __init__(self, width=8):
        if not is_int(width) or not 1 <= width <= MOST_BITS:
            raise BadValue(width)
        self.bits = width

    @property
    def width(self):
        """The number of bits in a label."""
        return self.bits

    def own(self, key):
        """The signs of all integers in the key."""
        return signs_of(key, self.bits)

    def join(self, one, other):
        """All signs of both."""
        return one | other

    def consistent(self, label, question):
        """Whether the label has all signs of the question; further integers may have the same ones."""
        signs = signs_of(question, self.bits)
        return label & signs == signs

    def matches(self, key, question):
        """Whether all integers of the question occur in the key."""
        return all([number in key for number in question])

    def penalty(self, label, key):
        """The number of signs that the label does not have yet."""
        return bits_in(label ^ (label | signs_of(key, self.bits)))

    def sides(self, labels):
        """Halves in the order of the labels, as for any kind."""
        return super().sides(labels)


def common_rest(one, other):
    """The label (modulus, rest) with the greatest modulus that holds two labels."""
    modulus, rest = one
    step = common_divisor(common_divisor(modulus, other[0]), rest - other[1])
    if step == 0:
        return (0, rest)
    return (step, rest % step)


def common_divisor(one, other):
    """The greatest common divisor of two integers, from 0 on."""
    while other != 0:
        one, other = other, one % other
    return abs(one)


def common_stem(one, other):
    """The longest string with which two strings begin."""
    many = 0
    longest = min(len(one), len(other))
    while many < longest and one[many] == other[many]:
        many += 1
    return one[:many]


def signs_of(numbers, bits):
    """The signs of some integers, in so many bits."""
    signs = 0
    for number in numbers:
        signs = signs | (1 << (number % bits))
    return signs


def bits_in(number):
    """The number of bits that are set in an integer from 0 on."""
    return sum([(number >> at) & 1 for at in range(number.bit_length())])
