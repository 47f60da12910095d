"""What a reckoning is, and what a joining one."""

from watchedways.errors import BadReckoning
from watchedways.lengths import Lengths
from watchedways.numbers import Numbers
from watchedways.reckonings import Reckoning
from watchedways.speaking import Tongues


def is_joining(thing):
    """Whether it is a reckoning but that of numbers."""
    return isinstance(thing, (Reckoning, Lengths, Tongues))


def is_reckoning(thing):
    """Whether it is any reckoning."""
    return is_joining(thing) or isinstance(thing, Numbers)


def check_reckoning(reckoning):
    """Raise BadReckoning if it is none."""
    if not is_reckoning(reckoning):
        raise BadReckoning(reckoning)


def check_joining(reckoning):
    """Raise BadReckoning if it is no joining reckoning."""
    if not is_joining(reckoning):
        raise BadReckoning(reckoning)
