"""Books of watches."""

from watchedways.errors import BadBook, BadWatch, BadWatches
from watchedways.kinds import is_row
from watchedways.words import check_word, is_watch

MOST_WATCHES = 12


class Book:
    """A row of at most 12 unlike watches."""

    def __init__(self, watches):
        if not is_row(watches) or len(watches) > MOST_WATCHES:
            raise BadWatches(-1)
        wrong = wrong_watch(watches)
        if wrong is not None:
            raise BadWatches(wrong)
        self.watches = tuple(watches)

    def __eq__(self, other):
        return isinstance(other, Book) and sorted(self.watches) == sorted(other.watches)

    def has(self, thing):
        """Whether this is a watch of the book."""
        return isinstance(thing, str) and thing in self.watches

    def with_watch(self, watch):
        """The book with this watch behind the others."""
        return Book((*self.watches, watch))

    def without_watch(self, watch):
        """The book without this watch, which it has."""
        if not self.has(watch):
            raise BadWatch(watch)
        return Book([kept for kept in self.watches if kept != watch])


def wrong_watch(watches):
    """The index of the first item of a row that is no watch or stands ahead of it already, or None."""
    for at, watch in enumerate(watches):
        if not is_watch(watch) or watch in watches[:at]:
            return at
    return None


def check_book(book):
    """Raise BadBook if it is none."""
    if not isinstance(book, Book):
        raise BadBook(book)


def check_asked(book, word):
    """Raise BadBook or BadWord for what most questions are asked with."""
    check_book(book)
    check_word(word)
