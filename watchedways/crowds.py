"""Watchers who hand on to one another what they can tell.

What a watcher has HEARD is the ascending tuple of the indexes of the words of the menu that
were handed on to them.
"""

from watchedways.walks import leads_through


class Crowd:
    """Some watchers and a menu of words."""

    def __init__(self, watchers, menu):
        self._watches = {name: watchers.sees([name]) for name in watchers.names()}
        self._menu = tuple(menu)
        # Much the same is asked again for other ties, so each answer is worked out just once.
        self._told = {}

    def can(self, name, heard, word):
        """Whether the watcher can tell the word, behind what they have heard."""
        known = [*self._watches[name], *[self._menu[at] for at in heard]]
        return leads_through(known, word)

    def told(self, name, heard):
        """The ascending tuple of the indexes of the words of the menu that the watcher can tell."""
        if (name, heard) not in self._told:
            found = [at for at, word in enumerate(self._menu) if self.can(name, heard, word)]
            self._told[(name, heard)] = tuple(found)
        return self._told[(name, heard)]

    def rounds(self, ties):
        """The list of the dicts from names to what they have heard: at the begin, and behind each round."""
        found = [{name: () for name in self._watches}]
        fresh = self._next_round(found[-1], ties)
        while fresh != found[-1]:
            found.append(fresh)
            fresh = self._next_round(found[-1], ties)
        return found

    def _next_round(self, heard, ties):
        lots = {name: list(heard[name]) for name in heard}
        for one, other in ties:
            lots[other].extend(self.told(one, heard[one]))
        return {name: tuple(sorted(set(lots[name]))) for name in lots}
