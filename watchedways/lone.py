"""Words of one letter alone."""

from math import gcd

from watchedways.errors import BadLengths, BadTimes
from watchedways.kinds import is_integer, is_row
from watchedways.walks import leads_through

MOST_LENGTHS = 8
MOST_LENGTH = 60
MOST_LAST = 10 ** 30


def lone_told(lengths, last):
    """Whether steps of these lengths, up and down, lead from 0 to the last spot and never beyond."""
    check_lengths(lengths)
    if not is_integer(last) or not 1 <= last <= MOST_LAST:
        raise BadTimes(last)
    return leads_to(lengths, last)


def lone_gaps(lengths):
    """The ascending list of the multiples of the greatest common divisor that are not told so."""
    check_lengths(lengths)
    shared = shared_divisor(lengths)
    return [last for last in range(shared, all_told_from(lengths), shared) if not leads_to(lengths, last)]


def leads_to(lengths, last):
    """Whether steps of these lengths lead to the last spot."""
    if last >= all_told_from(lengths):
        return last % shared_divisor(lengths) == 0
    return leads_through(["a" * length for length in lengths], "a" * last)


def shared_divisor(lengths):
    """The greatest common divisor of all the lengths."""
    shared = 0
    for length in lengths:
        shared = gcd(shared, length)
    return shared


def all_told_from(lengths):
    """The spot from which on every multiple of the greatest common divisor is told, as [27] says."""
    return sum(sorted(lengths)[-2:])


def check_lengths(lengths):
    """Raise BadLengths if it is no row of 1 to 8 lengths, or for the first item that is none."""
    if not is_row(lengths) or not 1 <= len(lengths) <= MOST_LENGTHS:
        raise BadLengths(-1)
    for at, length in enumerate(lengths):
        if not is_integer(length) or not 1 <= length <= MOST_LENGTH:
            raise BadLengths(at)
