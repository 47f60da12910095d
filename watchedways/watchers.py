"""Watchers, and what they can tell together."""

from watchedways.books import MOST_WATCHES, wrong_watch
from watchedways.choosing import greatest_unable, least_able
from watchedways.errors import BadNames, BadWatchers
from watchedways.kinds import is_row
from watchedways.walks import leads_through
from watchedways.words import check_word, in_order, is_name

MOST_WATCHERS = 8


class Watchers:
    """At most 8 watchers with unlike names, each with watches of their own."""

    def __init__(self, watchers):
        check_watchers(watchers)
        self._watches = {name: tuple(watches) for name, watches in watchers}

    def names(self):
        """The ascending list of the names."""
        return sorted(self._watches)

    def sees(self, names):
        """The list, in order, of all watches that some of these see."""
        if not is_row_of_unlike(names, self.names()):
            raise BadNames(names)
        return in_order({watch: True for name in names for watch in self._watches[name]})

    def can(self, names, word):
        """Whether these tell the word together."""
        watches = self.sees(names)
        check_word(word)
        return leads_through(watches, word)

    def least(self, word):
        """The list of all least lots of names that can."""
        check_word(word)
        return least_able(self.names(), lambda names: self.can(names, word))

    def unable(self, word):
        """The list of all greatest lots of names that cannot."""
        check_word(word)
        return greatest_unable(self.names(), lambda names: self.can(names, word))

    def needed(self, word):
        """The ascending list of the names without whom the others together cannot."""
        check_word(word)
        every = self.names()
        return [name for name in every if not self.can(without((name,), every), word)]

    def guards(self, word):
        """The list of all least lots of names that have a name in common with each least lot that can."""
        # Names have one in common with each lot that can exactly if all others together cannot.
        found = [without(lot, self.names()) for lot in self.unable(word)]
        return sorted(found, key=lambda lot: (len(lot), lot))


def without(names, every):
    """The tuple of all names that are none of these, in their order."""
    return tuple([name for name in every if name not in names])


def is_row_of_unlike(thing, every):
    """Whether it is a row of unlike ones of all these names."""
    if not is_row(thing):
        return False
    return all([name in every and name not in thing[:at] for at, name in enumerate(thing)])


def check_watchers(watchers):
    """Raise BadWatchers if it is no row of at most 8, or for the first one that is none."""
    if not is_row(watchers) or len(watchers) > MOST_WATCHERS:
        raise BadWatchers((-1, -1))
    names = []
    for at, item in enumerate(watchers):
        if not is_named_row(item) or item[0] in names:
            raise BadWatchers((at, -1))
        wrong = wrong_watch(item[1])
        if wrong is not None:
            raise BadWatchers((at, wrong))
        names.append(item[0])


def is_named_row(thing):
    """Whether it is a tuple of a name and a row that is not too long for watches."""
    if not isinstance(thing, tuple) or len(thing) != 2:
        return False
    return is_name(thing[0]) and is_row(thing[1]) and len(thing[1]) <= MOST_WATCHES
