"""The errors of the package: each has its arguments as attributes."""


class GroveError(ValueError):
    """Every error of the package is a direct subclass of this one."""


class BadValue(GroveError):
    """Something is not a value of the form that is asked for."""

    def __init__(self, value):
        self.value = value


class BadCount(GroveError):
    """A number that bounds or counts is none, or out of its range."""

    def __init__(self, count):
        self.count = count


class NotGiven(GroveError):
    """A kind does not have the method that is called."""

    def __init__(self, name):
        self.name = name


class TooMany(GroveError):
    """More would be reached than may be."""


class TooLarge(GroveError):
    """A tree would have too many rows or too great a height."""


class NoLabel(GroveError):
    """A label is not reached."""

    def __init__(self, label):
        self.label = label


class NoPair(GroveError):
    """A label and a key are not a reached pair."""

    def __init__(self, label, key):
        self.label = label
        self.key = key


class BadRecipe(GroveError):
    """Something is not a recipe: at is the index of the first wrong step."""

    def __init__(self, at):
        self.at = at


class BadWay(GroveError):
    """Something is not a way of a recipe: at is the index of what is wrong."""

    def __init__(self, at):
        self.at = at


class BadShape(GroveError):
    """Something is not a shape: path leads to the first wrong list or element."""

    def __init__(self, path):
        self.path = path


class BadSplit(GroveError):
    """The sides of a kind do not divide a node into two parts."""


class NoRow(GroveError):
    """There is no row with this number."""

    def __init__(self, number):
        self.number = number


class Finished(GroveError):
    """A work that is done is asked for a further step."""


class BadWork(GroveError):
    """Something is not a list of works: at is the index of the first wrong one."""

    def __init__(self, at):
        self.at = at


class BadOrder(GroveError):
    """Something is not an order of steps: at is the index of the first wrong item."""

    def __init__(self, at):
        self.at = at
