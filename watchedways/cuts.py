"""Cuts between the begin and the end of a word."""

from watchedways.books import check_asked
from watchedways.kinds import is_integer
from watchedways.walks import class_of, links_of


def cut(book, word):
    """The cut with the fewest spots, or None if the book tells the word."""
    check_asked(book, word)
    begin = class_of(links_of(book, word), 0)
    return None if len(word) in begin else begin


def greatest_cut(book, word):
    """The cut with the most spots, or None if the book tells the word."""
    check_asked(book, word)
    end = class_of(links_of(book, word), len(word))
    if 0 in end:
        return None
    return tuple([spot for spot in range(len(word)) if spot not in end])


def is_cut(book, word, thing):
    """Whether it is a cut of the word."""
    check_asked(book, word)
    if not isinstance(thing, tuple) or not all([is_integer(item) for item in thing]):
        return False
    if thing[:1] != (0,) or thing[-1] >= len(word) or not ascends(thing):
        return False
    return encloses(links_of(book, word), thing)


def ascends(numbers):
    """Whether each of the numbers is greater than the one ahead of it."""
    return all([one < other for one, other in zip(numbers, numbers[1:])])


def encloses(links, spots):
    """Whether no neighbour of one of the spots is outside of them."""
    return all([mate in spots for spot in spots for mate in links[spot]])
