"""The reckoning of least lengths."""

from watchedways.kinds import is_integer
from watchedways.worths import check_worths


class Lengths:
    """Worths are the integers from 0 on, and None: no way."""

    def __init__(self):
        self.none = None
        self.one = 0

    def __eq__(self, other):
        return isinstance(other, Lengths)

    def is_worth(self, thing):
        """Whether it is a length or None."""
        return thing is None or (is_integer(thing) and thing >= 0)

    def beneath(self, a, b):
        """Whether b is not longer than a."""
        check_worths(self, a, b)
        return not longer(b, a)

    def join(self, a, b):
        """The lesser one, None only if both are."""
        check_worths(self, a, b)
        return b if longer(a, b) else a

    def times(self, a, b):
        """The sum, None if one is."""
        check_worths(self, a, b)
        return None if a is None or b is None else a + b

    def meet(self, a, b):
        """The longer one, None if one is."""
        check_worths(self, a, b)
        return a if longer(a, b) else b

    def greatest(self):
        """The length above all: the least one."""
        return 0

    def left(self, a, c):
        """The least length b for which a and b together are not shorter than c."""
        check_worths(self, a, c)
        return missing(a, c)

    def right(self, c, a):
        """The least length b for which b and a together are not shorter than c."""
        check_worths(self, c, a)
        return missing(a, c)


def longer(one, other):
    """Whether the one length is longer than the other; no way is the longest."""
    if one is None:
        return other is not None
    return other is not None and one > other


def missing(length, wanted):
    """The least length that is to be put to this one, so that it is not shorter than the wanted one."""
    if not longer(wanted, length):
        return 0
    return None if wanted is None else wanted - length
