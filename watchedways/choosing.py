"""Lots of things that are chosen among a few: the least that can do something, the greatest that cannot.

can(lot) tells of a tuple of the things, in their order, whether they can; what some can,
they can with any further ones, too.
"""

from itertools import combinations


def least_able(things, can):
    """The list of all lots that can, and none within which can: ordered by their sizes, then as the things are."""
    found = []
    if not can(tuple(things)):
        return found
    for size in range(len(things) + 1):
        for lot in combinations(things, size):
            if not holds_any(lot, found) and can(lot):
                found.append(lot)
    return found


def greatest_unable(things, can):
    """The list of all lots that cannot, and are within no other one that cannot: ordered likewise."""
    found = []
    for size in range(len(things), -1, -1):
        found = [lot for lot in combinations(things, size) if not is_within_any(lot, found) and not can(lot)] + found
    return found


def holds_any(lot, others):
    """Whether one of the other lots is within this one."""
    return any([is_within(other, lot) for other in others])


def is_within_any(lot, others):
    """Whether this lot is within one of the others."""
    return any([is_within(lot, other) for other in others])


def is_within(lot, other):
    """Whether all things of the lot are in the other one."""
    return all([thing in other for thing in lot])
