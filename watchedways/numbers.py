"""The reckoning of numbers of ways."""

from watchedways.ratios import Ratio, as_ratio, is_number
from watchedways.worths import check_worths


class Numbers:
    """Worths are Ratios; integers may be handed in for them."""

    def __init__(self):
        self.none = Ratio(0)
        self.one = Ratio(1)

    def __eq__(self, other):
        return isinstance(other, Numbers)

    def is_worth(self, thing):
        """Whether it is a Ratio or an integer."""
        return is_number(thing)

    def join(self, a, b):
        """The sum."""
        check_worths(self, a, b)
        return as_ratio(a) + as_ratio(b)

    def times(self, a, b):
        """The product."""
        check_worths(self, a, b)
        return as_ratio(a) * as_ratio(b)
