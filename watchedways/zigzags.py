"""Zigzags of a word through the watches of a book."""

from watchedways.books import check_asked
from watchedways.errors import BadSpot
from watchedways.kinds import is_integer
from watchedways.walks import calmest_walk, class_of, fewest_walk, leads_through, links_of


def neighbours(book, word, spot):
    """The ascending list of the neighbours of a spot."""
    check_asked(book, word)
    if not is_spot(word, spot):
        raise BadSpot(spot)
    return links_of(book, word)[spot]


def classes(book, word):
    """The list of classes of spots that neighbours lead to one another."""
    check_asked(book, word)
    links = links_of(book, word)
    found = []
    for spot in range(len(links)):
        members = class_of(links, spot)
        if members[0] == spot:
            found.append(members)
    return found


def is_told(book, word):
    """Whether the book tells the word."""
    check_asked(book, word)
    return leads_through(book.watches, word)


def zigzag(book, word):
    """The zigzag with the fewest spots, of these the least, or None."""
    check_asked(book, word)
    return fewest_walk(book, word)


def calmest(book, word):
    """The zigzag with the fewest turns, then the fewest spots, then the least, or None."""
    check_asked(book, word)
    return calmest_walk(book, word)


def is_zigzag(book, word, thing):
    """Whether it is a zigzag of the word."""
    check_asked(book, word)
    if not isinstance(thing, tuple) or not all([is_spot(word, item) for item in thing]):
        return False
    if len(thing) != len(set(thing)) or thing[:1] != (0,) or thing[-1] != len(word):
        return False
    links = links_of(book, word)
    return all([there in links[here] for here, there in zip(thing, thing[1:])])


def is_spot(word, thing):
    """Whether it is a spot of the word."""
    return is_integer(thing) and 0 <= thing <= len(word)
