"""What watchers can tell when they hand on tables to one another."""

from watchedways.choosing import least_able
from watchedways.crowds import Crowd
from watchedways.errors import BadMenu, BadName, BadTies, BadWatchers, TooMany
from watchedways.kinds import is_row
from watchedways.watchers import Watchers
from watchedways.words import check_word, is_word

MOST_TIES = 40
MOST_MENU_WORDS = 12
MOST_PARTED_TIES = 10


def passing(watchers, ties, menu):
    """The dict from the tuples of a name and a word of the menu to the round behind which it can first be told."""
    check_passing(watchers, ties, menu)
    crowd = Crowd(watchers, menu)
    first = {}
    for number, heard in enumerate(crowd.rounds(ties)):
        for name in heard:
            for at in crowd.told(name, heard[name]):
                first.setdefault((name, menu[at]), number)
    return first


def tells_at_last(watchers, ties, menu, name, word):
    """Whether the watcher can tell the word when nothing new is handed on any more."""
    check_asked_of(watchers, ties, menu, name, word)
    return can_at_last(Crowd(watchers, menu), ties, name, word)


def least_ties(watchers, ties, menu, name, word):
    """The list of all least lots of ties, told by their indexes, with which alone the watcher can tell the word."""
    check_asked_of(watchers, ties, menu, name, word)
    if len(ties) > MOST_PARTED_TIES:
        raise TooMany()
    crowd = Crowd(watchers, menu)
    every = list(range(len(ties)))
    return least_able(every, lambda lot: can_at_last(crowd, [ties[at] for at in lot], name, word))


def can_at_last(crowd, ties, name, word):
    """Whether the watcher can tell the word behind the last round."""
    return crowd.can(name, crowd.rounds(ties)[-1][name], word)


def check_asked_of(watchers, ties, menu, name, word):
    """Raise an error for what is not asked so of one watcher."""
    check_passing(watchers, ties, menu)
    if name not in watchers.names():
        raise BadName(name)
    check_word(word)


def check_passing(watchers, ties, menu):
    """Raise BadWatchers, BadTies or BadMenu for what nothing can be handed on with."""
    if not isinstance(watchers, Watchers):
        raise BadWatchers(watchers)
    check_ties(watchers.names(), ties)
    check_menu(menu)


def check_ties(names, ties):
    """Raise BadTies if it is no row of at most 40, or for the first item that is none or stands ahead of it."""
    if not is_row(ties) or len(ties) > MOST_TIES:
        raise BadTies(-1)
    for at, tie in enumerate(ties):
        if not is_tie(names, tie) or tie in ties[:at]:
            raise BadTies(at)


def is_tie(names, thing):
    """Whether it is a tuple of two unlike ones of the names."""
    if not isinstance(thing, tuple) or len(thing) != 2:
        return False
    return thing[0] in names and thing[1] in names and thing[0] != thing[1]


def check_menu(menu):
    """Raise BadMenu if it is no row of at most 12, or for the first item that is no word or stands ahead of it."""
    if not is_row(menu) or len(menu) > MOST_MENU_WORDS:
        raise BadMenu(-1)
    for at, word in enumerate(menu):
        if not is_word(word) or word in menu[:at]:
            raise BadMenu(at)
