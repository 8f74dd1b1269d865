"""Functions whose calls are counted."""

from kindgrove.errors import BadValue
from kindgrove.values import is_int


class Counted:
    """A function of one or two arguments, and the number of its calls through this object."""

    def __init__(self, function, arguments=2):
        if not is_int(arguments) or not 1 <= arguments <= 2:
            raise BadValue(arguments)
        self.function = function
        self.arguments = arguments
        self.made = 0

    def __call__(self, one, other=None):
        """What the function returns; the call counts also if the function raises an error."""
        self.made += 1
        if self.arguments == 1:
            return self.function(one)
        return self.function(one, other)

    @property
    def calls(self):
        """The number of calls so far."""
        return self.made

    def clear(self):
        """Sets the number of calls to 0, and returns what it was."""
        many = self.made
        self.made = 0
        return many
