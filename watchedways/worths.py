"""Worths that are handed to a reckoning."""

from watchedways.errors import BadWorth


def check_worths(reckoning, first, second):
    """Raise BadWorth for the first one that is no worth of the reckoning."""
    for thing in (first, second):
        if not reckoning.is_worth(thing):
            raise BadWorth(thing)
