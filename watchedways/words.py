"""Words and watches."""

from watchedways.errors import BadWord

MOST_LETTERS = 40
MOST_WATCH_LETTERS = 12
MOST_NAME_LETTERS = 8


def is_word(thing):
    """Whether it is a string of 1 to 40 letters a to z."""
    return has_letters(thing, MOST_LETTERS)


def is_watch(thing):
    """Whether it is a word of at most 12 letters."""
    return has_letters(thing, MOST_WATCH_LETTERS)


def is_letter(thing):
    """Whether it is one letter a to z."""
    return has_letters(thing, 1)


def is_name(thing):
    """Whether it is a string of 1 to 8 letters."""
    return has_letters(thing, MOST_NAME_LETTERS)


def has_letters(thing, most):
    """Whether it is a string of 1 letter to so many letters a to z."""
    if not isinstance(thing, str) or not 1 <= len(thing) <= most:
        return False
    return all([letter in "abcdefghijklmnopqrstuvwxyz" for letter in thing])


def check_word(word):
    """Raise BadWord if it is none."""
    if not is_word(word):
        raise BadWord(word)


def in_order(words):
    """The list of the words, the shorter ones first, those of one length as Python orders them."""
    return sorted(words, key=lambda word: (len(word), word))
