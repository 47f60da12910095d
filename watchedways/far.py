"""Words that go on as far as one likes.

What is behind one, letter by letter, is kept as a tuple (text, names): the last letters, as
many as can still be part of a watch that ends farther on, and for each of the last spots that
such a watch can begin at the name of its class: 0 for the class of the begin, the others
numbered as they come. There are finitely many of these.
"""

from watchedways.books import check_book
from watchedways.errors import BadPart, BadTimes
from watchedways.kinds import is_integer
from watchedways.words import MOST_WATCH_LETTERS, has_letters

MOST_PART_LETTERS = 20
MOST_TIMES = 10 ** 30
BEGIN = ("", (0,))


def powers(book, before, middle, behind):
    """The tuple (ahead, round) of the flags of the far words."""
    check_far(book, before, middle, behind)
    return flags_of_powers(book.watches, before, middle, behind)


def far_told(book, before, middle, behind, times):
    """Whether the book tells the far word with so many times the middle."""
    check_far(book, before, middle, behind)
    if not is_integer(times) or not 1 <= times <= MOST_TIMES:
        raise BadTimes(times)
    ahead, again = flags_of_powers(book.watches, before, middle, behind)
    if times <= len(ahead):
        return ahead[times - 1]
    return again[(times - 1 - len(ahead)) % len(again)]


def check_far(book, before, middle, behind):
    """Raise BadBook or BadPart for what makes no far words."""
    check_book(book)
    if not is_part(before):
        raise BadPart(before)
    if not has_letters(middle, MOST_PART_LETTERS):
        raise BadPart(middle)
    if not is_part(behind):
        raise BadPart(behind)


def is_part(thing):
    """Whether it is a string of 0 to 20 letters."""
    return thing == "" or has_letters(thing, MOST_PART_LETTERS)


def flags_of_powers(watches, before, middle, behind):
    """The tuple of the flags of the first times, and of those that come again and again from then on."""
    state = read_on(watches, read_on(watches, BEGIN, before), middle)
    seen = {}
    flags = []
    while state not in seen:
        seen[state] = len(flags)
        flags.append(read_on(watches, state, behind)[1][-1] == 0)
        state = read_on(watches, state, middle)
    first = seen[state]
    return in_shortest_rows(flags[:first], flags[first:])


def read_on(watches, state, text):
    """What is kept behind some more letters."""
    for letter in text:
        state = read_letter(watches, state, letter)
    return state


def read_letter(watches, state, letter):
    """What is kept behind one more letter."""
    text = state[0] + letter
    # The new spot has a name that is none yet.
    names = [*state[1], MOST_WATCH_LETTERS + 1]
    mates = [names[-1 - len(watch)] for watch in watches if text.endswith(watch)] + names[-1:]
    least = min(mates)
    joined = [least if name in mates else name for name in names]
    return (text[1 - MOST_WATCH_LETTERS:], numbered(joined[-MOST_WATCH_LETTERS:]))


def numbered(names):
    """The tuple of the names, numbered as they come, but 0, which stays."""
    numbers = {0: 0}
    return tuple([numbers.setdefault(name, len(numbers)) for name in names])


def in_shortest_rows(ahead, again):
    """The same flags with as few as can be in the row that comes again, and then ahead of it."""
    size = 1
    while again != again[:size] * (len(again) // size):
        size += 1
    first, rest = list(ahead), again[:size]
    while first and first[-1] == rest[-1]:
        rest = first[-1:] + rest[:-1]
        first = first[:-1]
    return (first, rest)
