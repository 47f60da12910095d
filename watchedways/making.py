"""Told reckonings that are made from less than their tables."""

from watchedways.errors import BadMost, BadReckoning, TooMany
from watchedways.faults import MOST_WORTHS, grouping_fault, is_below, is_square, one_fault
from watchedways.kinds import is_integer, is_row
from watchedways.reckonings import Reckoning, check_told

MOST_WIDTH = 15
MOST_THINGS = 4


def yes_no():
    """Whether there is a way: 1, or not: 0."""
    return widths(1)


def widths(most):
    """The greatest width of a way: from 0, no way, to the most."""
    if not is_integer(most) or not 1 <= most <= MOST_WIDTH:
        raise BadMost(most)
    worths = range(most + 1)
    return Reckoning(greater_ones(most + 1), [[min(a, b) for b in worths] for a in worths], 0, most)


def turned(reckoning):
    """The reckoning in which a * b is b * a of this one."""
    check_told(reckoning)
    return Reckoning(reckoning.joins, list(zip(*reckoning.products)), reckoning.none, reckoning.one)


def beside(one, other):
    """The reckoning of pairs of worths, part by part; a and b together are a * n + b."""
    check_told(one)
    check_told(other)
    if len(one.joins) * len(other.joins) > MOST_WORTHS:
        raise TooMany()
    size = len(other.joins)
    return Reckoning(
        side_by_side(one.joins, other.joins),
        side_by_side(one.products, other.products),
        one.none * size + other.none,
        one.one * size + other.one,
    )


def lots(products, one):
    """The reckoning of all lots of some things, told by a table of the products of the things."""
    fault = lots_fault(products, one)
    if fault is not None:
        raise BadReckoning(fault)
    every = range(1 << len(products))
    return Reckoning(
        [[a | b for b in every] for a in every],
        [[product_of_lots(products, a, b) for b in every] for a in every],
        0,
        1 << one,
    )


def chain(times):
    """The reckoning of the greater worth, with this table of products."""
    # Tables of a wrong size are left to Reckoning, which finds that fault ahead of all others.
    size = len(times) if is_row(times) else 0
    return Reckoning(greater_ones(min(size, MOST_WORTHS + 1)), times, 0, size - 1)


def greater_ones(size):
    """The table of the greater one of any two integers from 0 on below the size."""
    return [[max(a, b) for b in range(size)] for a in range(size)]


def side_by_side(one, other):
    """The table of pairs that two tables make, part by part."""
    size = len(other)
    pairs = [(a, b) for a in range(len(one)) for b in range(size)]
    return [[one[a][c] * size + other[b][d] for c, d in pairs] for a, b in pairs]


def lots_fault(products, one):
    """The first thing that is not so with a table of the products of things, or None."""
    if not is_row(products) or not 1 <= len(products) <= MOST_THINGS:
        return ("size", -1, -1, -1)
    if not is_square(len(products), products) or not is_below(len(products), one):
        return ("size", -1, -1, -1)
    return one_fault(products, one) or grouping_fault("product", products)


def product_of_lots(products, a, b):
    """The lot of all products of a thing of the first lot and one of the second."""
    things = range(len(products))
    made = 0
    for one in things:
        for other in things:
            if a >> one & 1 and b >> other & 1:
                made = made | 1 << products[one][other]
    return made
