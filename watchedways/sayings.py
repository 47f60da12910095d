"""Rules as texts."""

from watchedways.errors import BadText
from watchedways.steps import BACK, ON, check_rule, is_any_rule, is_step


def write_rule(rule):
    """The rule in rows, one for each step."""
    check_rule(rule)
    return "\n".join([f"{kind} {watch}" for kind, watch in rule])


def read_rule(text):
    """The rule that is written so."""
    if not isinstance(text, str):
        raise BadText(-1)
    steps = []
    for at, row in enumerate(text.split("\n")):
        step = step_in_row(row)
        if not is_step(step):
            raise BadText(at)
        steps.append(step)
    if not is_any_rule(tuple(steps)):
        raise BadText(len(steps))
    return tuple(steps)


def step_in_row(row):
    """What stands ahead of and behind the first blank of a row."""
    kind, _, watch = row.partition(" ")
    return (kind, watch)


def saying(rule):
    """The rule as one sentence about places."""
    check_rule(rule)
    return "".join([said_step(rule, at) for at in range(len(rule))])


def said_step(rule, at):
    """What is said of the step with this index."""
    kind, watch = rule[at]
    here, there = place_behind(rule, at), place_behind(rule, at + 1)
    if at + 1 == len(rule):
        return f"{watch}({here}, {there})"
    if kind == ON:
        return f"some {there}: {watch}({here}, {there}) and "
    return f"all {there}: if {watch}({there}, {here}) then "


def place_behind(rule, many):
    """The name of the place behind so many steps."""
    if many == 0:
        return "x"
    return "y" if many == len(rule) else f"p{many}"


def read_saying(text):
    """The rule with this saying."""
    if not isinstance(text, str):
        raise BadText(-1)
    guess = guessed_rule(text)
    # The guess is right for each saying, so a text that says something else is none.
    if not is_any_rule(guess) or saying(guess) != text:
        raise BadText(-1)
    return guess


def guessed_rule(text):
    """The steps that the text speaks of, if it is a saying."""
    parts = text.split("(")[:-1]
    return tuple([(BACK if ": if " in part else ON, part.rpartition(" ")[2]) for part in parts])
