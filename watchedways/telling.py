"""What books tell of words and of one another."""

from watchedways.books import check_book
from watchedways.errors import BadLetters, BadMost, BadWords
from watchedways.kinds import is_integer, is_row
from watchedways.rules import rule
from watchedways.words import has_letters, is_word
from watchedways.zigzags import is_told

MOST_WORDS = 20
MOST_UNLIKE_LETTERS = 3
MOST_TOLD_LETTERS = 6


def tells(book, words):
    """Whether the book tells all of these words."""
    check_book(book)
    check_words(words)
    return all([is_told(book, word) for word in words])


def check_words(words):
    """Raise BadWords if it is no row of at most 20, or for the first one that is no word."""
    if not is_row(words) or len(words) > MOST_WORDS:
        raise BadWords(-1)
    for at, word in enumerate(words):
        if not is_word(word):
            raise BadWords(at)


def tells_book(one, other):
    """Whether the one book tells all watches of the other."""
    check_book(one)
    check_book(other)
    return all([is_told(one, watch) for watch in other.watches])


def rules_for(one, other):
    """The dict from the watches of the other book that the one tells to their rules."""
    check_book(one)
    check_book(other)
    return {watch: rule(one, watch) for watch in other.watches if is_told(one, watch)}


def needless(book):
    """The list of the watches of the book that its other ones tell."""
    check_book(book)
    return [watch for watch in book.watches if is_told(book.without_watch(watch), watch)]


def told_words(book, letters, most):
    """The list of all words of these letters, with at most so many, that the book tells."""
    check_book(book)
    if not is_letters(letters):
        raise BadLetters(letters)
    if not is_integer(most) or not 1 <= most <= MOST_TOLD_LETTERS:
        raise BadMost(most)
    found, words = [], [""]
    for _ in range(most):
        words = [word + letter for word in words for letter in sorted(letters)]
        found.extend([word for word in words if is_told(book, word)])
    return found


def is_letters(thing):
    """Whether it is a string of 1 to 3 unlike letters."""
    return has_letters(thing, MOST_UNLIKE_LETTERS) and len(set(thing)) == len(thing)
