"""Rules by which a told word follows from the watches."""

from watchedways.books import check_asked
from watchedways.errors import BadRules, BadZigzag, TooMany
from watchedways.steps import (
    MOST_STEPS, ON, check_rule, is_any_rule, spots_along, steps_along, turned_steps,
)
from watchedways.walks import calmest_walk, fewest_walk
from watchedways.words import check_word, is_watch
from watchedways.zigzags import is_zigzag


def followed(word, rule):
    """The tuple of the spots to which the rule leads, or None if it does not follow the word."""
    check_word(word)
    check_rule(rule)
    return spots_along(word, rule)


def rule_of(book, word, zigzag):
    """The rule whose steps go from spot to spot of the zigzag."""
    if not is_zigzag(book, word, zigzag):
        raise BadZigzag(zigzag)
    return steps_along(word, zigzag)


def rule(book, word):
    """The rule of the zigzag with the fewest spots, or None."""
    check_asked(book, word)
    walk = fewest_walk(book, word)
    return None if walk is None else steps_along(word, walk)


def calm_rule(book, word):
    """The rule of the calmest zigzag, or None."""
    check_asked(book, word)
    walk = calmest_walk(book, word)
    return None if walk is None else steps_along(word, walk)


def is_rule(book, word, thing):
    """Whether it is a rule for the book and the word."""
    check_asked(book, word)
    if not is_any_rule(thing) or spots_along(word, thing) is None:
        return False
    return all([book.has(watch) for _, watch in thing])


def unfold(rule, rules):
    """The rule with the steps of the rules of the dict in the place of its watches."""
    check_rule(rule)
    check_rules(rules)
    steps = []
    for step in rule:
        steps.extend(unfolded_step(step, rules))
    if len(steps) > MOST_STEPS:
        raise TooMany()
    return tuple(steps)


def check_rules(rules):
    """Raise BadRules if it is no dict from watches to rules that follow them."""
    if not isinstance(rules, dict):
        raise BadRules(-1)
    for key in rules:
        if not is_watch(key) or not is_any_rule(rules[key]) or spots_along(key, rules[key]) is None:
            raise BadRules(key)


def unfolded_step(step, rules):
    """The steps in the place of this one."""
    kind, watch = step
    if watch not in rules:
        return [step]
    return list(rules[watch]) if kind == ON else turned_steps(rules[watch])
