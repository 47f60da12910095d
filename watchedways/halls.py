"""A hall: a web that nobody sees, watchers, and what they watch; it changes."""

from watchedways.books import MOST_WATCHES, Book
from watchedways.cuts import cut
from watchedways.errors import BadName, BadWatch, BadWorth, NotTold, NothingDone, TooMany
from watchedways.numbers import Numbers
from watchedways.rules import rule
from watchedways.running import run_over
from watchedways.shown import Shown, news_between
from watchedways.solving import solve
from watchedways.tables import told_table
from watchedways.watchers import MOST_WATCHERS, Watchers
from watchedways.webs import MOST_ROADS, Web
from watchedways.words import check_word, is_name, is_watch


class Hall:
    """A web that nobody sees, and watchers.

    A deed puts what is there behind it in the place of what was there ahead of it, which does
    not change itself; so all that undo and trying need is to keep that.
    """

    def __init__(self, reckoning, places):
        self._shown = Shown(Web(reckoning, places, ()), {})
        # The watches of each watcher, in the order in which they began.
        self._watches = {}
        # What was ahead of each deed that is not taken back.
        self._past = []

    def road(self, one, letter, other, worth):
        """Give the road this worth, or strike it if that is none."""
        web = self._shown.web
        web.worth(one, letter, other)
        if not web.reckoning.is_worth(worth):
            raise BadWorth(worth)
        return self._do(with_road(web, (one, letter, other), worth), self._watches)

    def watcher(self, name):
        """Let in a new watcher."""
        if not is_name(name) or name in self._watches:
            raise BadName(name)
        if len(self._watches) == MOST_WATCHERS:
            raise TooMany()
        return self._do(self._shown.web, {**self._watches, name: ()})

    def watch(self, name, watch):
        """Show the watch to the watcher from now on."""
        seen = self._seen_by(name)
        if not is_watch(watch) or watch in seen:
            raise BadWatch(watch)
        if len(seen) == MOST_WATCHES:
            raise TooMany()
        return self._do(self._shown.web, {**self._watches, name: (*seen, watch)})

    def unwatch(self, name, watch):
        """Show the watch to the watcher no more."""
        seen = self._seen_by(name)
        if watch not in seen:
            raise BadWatch(watch)
        left = tuple([other for other in seen if other != watch])
        return self._do(self._shown.web, {**self._watches, name: left})

    def undo(self):
        """Take back the last deed that is not taken back yet."""
        if not self._past:
            raise NothingDone()
        web, watches = self._past[-1]
        news = self._turn_to(web, watches)
        self._past.pop()
        return news

    def seen(self, name, watch):
        """The table of a watch that the watcher sees."""
        if watch not in self._seen_by(name):
            raise BadWatch(watch)
        return told_table(self._shown.web.reckoning, self._shown.wide(watch))

    def work_out(self, names, word):
        """The table of the word, as these watchers tell it together from what they see."""
        watches = self.watchers().sees(names)
        check_word(word)
        if len(watches) > MOST_WATCHES:
            raise TooMany()
        book = Book(watches)
        steps = rule(book, word)
        if steps is None:
            raise NotTold(cut(book, word))
        return told_by(self._shown, steps)

    def watchers(self):
        """The watchers there are now."""
        return Watchers(list(self._watches.items()))

    def all_places(self):
        """The tuple of the places."""
        return self._shown.web.places

    def trying(self, deed):
        """What the deed returns when it is done to the hall; behind it all is as it was."""
        shown, watches, past = self._shown, self._watches, list(self._past)
        try:
            return deed(self)
        finally:
            self._shown, self._watches, self._past = shown, watches, past

    def _seen_by(self, name):
        """The watches of the watcher with this name."""
        if not is_name(name) or name not in self._watches:
            raise BadName(name)
        return self._watches[name]

    def _do(self, web, watches):
        """Turn to what is there behind a deed, and keep what was ahead of it."""
        ahead = (self._shown.web, self._watches)
        news = self._turn_to(web, watches)
        self._past.append(ahead)
        return news

    def _turn_to(self, web, watches):
        """Put this in the place of what is there, and tell the news."""
        shown = self._shown.turned_to(web)
        # No deed changes both roads and watches, so what has news was seen ahead of it exactly if it is behind it.
        # Nothing is put in its place ahead of the news: for tongues there may be too many states in them.
        news = news_between(self._shown, shown, seen_by_any(watches))
        self._shown, self._watches = shown, watches
        return news


def seen_by_any(watches):
    """The dict of True for all watches that somebody sees."""
    return {watch: True for name in watches for watch in watches[name]}


def with_road(web, ends, worth):
    """The web with this worth for the road, or without it if that is none."""
    roads = {(one, letter, other): kept for one, letter, other, kept in web.roads}
    roads[ends] = worth
    if worth == web.reckoning.none:
        del roads[ends]
    if len(roads) > MOST_ROADS:
        raise TooMany()
    return Web(web.reckoning, web.places, [(*road, roads[road]) for road in roads])


def told_by(shown, steps):
    """The table that the rule with these steps tells from the shown tables."""
    reckoning = shown.web.reckoning
    tables = {watch: shown.wide(watch) for _, watch in steps}
    if isinstance(reckoning, Numbers):
        return solve(tables, steps)
    return told_table(reckoning, run_over(reckoning, tables, steps))
