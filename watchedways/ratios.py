"""Fractions."""

from math import gcd

from watchedways.errors import BadNumber
from watchedways.kinds import is_integer


class Ratio:
    """A fraction in lowest terms, its bottom above 0."""

    def __init__(self, top, bottom=1):
        if not is_integer(top):
            raise BadNumber(top)
        if not is_integer(bottom) or bottom == 0:
            raise BadNumber(bottom)
        shared = gcd(top, bottom)
        if bottom < 0:
            shared = -shared
        self.top = top // shared
        self.bottom = bottom // shared

    def __eq__(self, other):
        if isinstance(other, Ratio):
            return self.top == other.top and self.bottom == other.bottom
        return is_integer(other) and self.bottom == 1 and self.top == other

    def __add__(self, other):
        if not is_number(other):
            return NotImplemented
        return sum_of(self, as_ratio(other))

    def __radd__(self, other):
        if not is_number(other):
            return NotImplemented
        return sum_of(as_ratio(other), self)

    def __sub__(self, other):
        if not is_number(other):
            return NotImplemented
        return sum_of(self, -as_ratio(other))

    def __rsub__(self, other):
        if not is_number(other):
            return NotImplemented
        return sum_of(as_ratio(other), -self)

    def __mul__(self, other):
        if not is_number(other):
            return NotImplemented
        return product_of(self, as_ratio(other))

    def __rmul__(self, other):
        if not is_number(other):
            return NotImplemented
        return product_of(as_ratio(other), self)

    def __neg__(self):
        return Ratio(-self.top, self.bottom)

    def over(self, other):
        """The quotient."""
        mate = as_ratio(other)
        if mate.top == 0:
            raise BadNumber(other)
        return Ratio(self.top * mate.bottom, self.bottom * mate.top)

    def less(self, other):
        """Whether it is less than the other one."""
        mate = as_ratio(other)
        return self.top * mate.bottom < mate.top * self.bottom


def is_number(thing):
    """Whether it is a Ratio or an integer."""
    return isinstance(thing, Ratio) or is_integer(thing)


def as_ratio(thing):
    """The number as a Ratio; BadNumber if it is none."""
    return thing if isinstance(thing, Ratio) else Ratio(thing)


def sum_of(one, other):
    """The sum of two Ratios."""
    return Ratio(one.top * other.bottom + other.top * one.bottom, one.bottom * other.bottom)


def product_of(one, other):
    """The product of two Ratios."""
    return Ratio(one.top * other.top, one.bottom * other.bottom)
