"""Which watches of a book are enough to tell words, and which are not."""

from watchedways.books import check_book
from watchedways.choosing import greatest_unable, least_able
from watchedways.errors import TooMany
from watchedways.telling import check_words
from watchedways.walks import leads_through
from watchedways.words import in_order

MOST_PARTED_WATCHES = 10


def least_lots(book, words):
    """The list of all sub-lots that tell the words, and none within which does."""
    check_parted(book, words)
    return least_able(in_order(book.watches), lambda lot: lead_through(lot, words))


def unable_lots(book, words):
    """The list of all sub-lots that do not tell the words, and are within no other one that does not."""
    check_parted(book, words)
    return greatest_unable(in_order(book.watches), lambda lot: lead_through(lot, words))


def is_least_lot(book, words, thing):
    """Whether it is one of the least lots."""
    return thing in least_lots(book, words)


def is_unable_lot(book, words, thing):
    """Whether it is one of the greatest lots that do not tell the words."""
    return thing in unable_lots(book, words)


def lead_through(watches, words):
    """Whether the watches lead through each of the words."""
    return all([leads_through(watches, word) for word in words])


def check_parted(book, words):
    """Raise BadBook, BadWords or TooMany for what is not asked so."""
    check_book(book)
    check_words(words)
    if len(book.watches) > MOST_PARTED_WATCHES:
        raise TooMany()
