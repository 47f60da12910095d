"""Reckonings that are told by tables."""

from watchedways.errors import BadReckoning
from watchedways.faults import first_fault, is_below
from watchedways.worths import check_worths


class Reckoning:
    """The worths 0 to n - 1 with the tables of their joins and products."""

    def __init__(self, joins, products, none, one):
        fault = first_fault(joins, products, none, one)
        if fault is not None:
            raise BadReckoning(fault)
        self.joins = tuple([tuple(row) for row in joins])
        self.products = tuple([tuple(row) for row in products])
        self.none = none
        self.one = one
        # Rules are run by very many of these, so each is worked out just once.
        worths = range(len(joins))
        self._meets = [[self._meet(a, b) for b in worths] for a in worths]
        self._lefts = [[self._left(a, c) for c in worths] for a in worths]
        self._rights = [[self._right(c, a) for a in worths] for c in worths]

    def __eq__(self, other):
        if not isinstance(other, Reckoning):
            return False
        if self.joins != other.joins or self.products != other.products:
            return False
        return self.none == other.none and self.one == other.one

    def is_worth(self, thing):
        """Whether it is a worth."""
        return is_below(len(self.joins), thing)

    def beneath(self, a, b):
        """Whether a + b is b."""
        check_worths(self, a, b)
        return self.joins[a][b] == b

    def join(self, a, b):
        """a + b."""
        check_worths(self, a, b)
        return self.joins[a][b]

    def times(self, a, b):
        """a * b."""
        check_worths(self, a, b)
        return self.products[a][b]

    def meet(self, a, b):
        """The greatest worth beneath both."""
        check_worths(self, a, b)
        return self._meets[a][b]

    def greatest(self):
        """The worth above all."""
        return self._joined(list(range(len(self.joins))))

    def left(self, a, c):
        """The greatest worth b for which a * b is beneath c."""
        check_worths(self, a, c)
        return self._lefts[a][c]

    def right(self, c, a):
        """The greatest worth b for which b * a is beneath c."""
        check_worths(self, c, a)
        return self._rights[c][a]

    def _joined(self, worths):
        """The join of all these; none if there are none."""
        found = self.none
        for worth in worths:
            found = self.joins[found][worth]
        return found

    def _meet(self, a, b):
        below = [worth for worth in range(len(self.joins)) if self.joins[worth][a] == a]
        return self._joined([worth for worth in below if self.joins[worth][b] == b])

    def _left(self, a, c):
        row = self.products[a]
        return self._joined([b for b in range(len(row)) if self.joins[row[b]][c] == c])

    def _right(self, c, a):
        column = [row[a] for row in self.products]
        return self._joined([b for b in range(len(column)) if self.joins[column[b]][c] == c])


def check_told(reckoning):
    """Raise BadReckoning if it is no told reckoning."""
    if not isinstance(reckoning, Reckoning):
        raise BadReckoning(reckoning)
