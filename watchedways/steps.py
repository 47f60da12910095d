"""Steps, and rows of steps that are rules."""

from watchedways.errors import BadRule
from watchedways.words import is_watch

ON = "on"
BACK = "back"
MOST_STEPS = 80


def is_step(thing):
    """Whether it is a tuple ("on", watch) or ("back", watch)."""
    return isinstance(thing, tuple) and len(thing) == 2 and thing[0] in (ON, BACK) and is_watch(thing[1])


def is_any_rule(thing):
    """Whether it is a rule, whatever it follows."""
    if not isinstance(thing, tuple) or not 1 <= len(thing) <= MOST_STEPS:
        return False
    return all([is_step(item) for item in thing]) and thing[0][0] == ON and thing[-1][0] == ON


def check_rule(rule):
    """Raise BadRule if it is none."""
    if not is_any_rule(rule):
        raise BadRule(rule)


def spots_along(word, rule):
    """The spots from 0 on behind each step, or None if a step or the end does not fit the word."""
    spots = [0]
    for kind, watch in rule:
        here = spots[-1]
        there = here + len(watch) if kind == ON else here - len(watch)
        low, high = min(here, there), max(here, there)
        if low < 0 or word[low:high] != watch:
            return None
        spots.append(there)
    return tuple(spots) if spots[-1] == len(word) else None


def steps_along(word, spots):
    """The steps that go from spot to spot of the word."""
    return tuple([step_between(word, here, there) for here, there in zip(spots, spots[1:])])


def step_between(word, here, there):
    """The step from the one spot to the other."""
    if here < there:
        return (ON, word[here:there])
    return (BACK, word[there:here])


def turned_steps(steps):
    """The steps that go the same way from its end to its begin."""
    return [(BACK if kind == ON else ON, watch) for kind, watch in steps[::-1]]
