"""A web whose tables are shown, and what is new in them when its roads change."""

from watchedways.tables import told_worth
from watchedways.webs import wide_table
from watchedways.words import in_order


class Shown:
    """A web with tables of watches, each worked out just once, in the form in which it is worked with."""

    def __init__(self, web, tables):
        self.web = web
        self._tables = dict(tables)

    def wide(self, watch):
        """The table of the watch."""
        if watch not in self._tables:
            self._tables[watch] = wide_table(self.web, watch)
        return self._tables[watch]

    def turned_to(self, web):
        """Another web of the same places, with the tables that are no others there."""
        letters = changed_letters(self.web, web)
        kept = [watch for watch in self._tables if not has_any(watch, letters)]
        return Shown(web, {watch: self._tables[watch] for watch in kept})


def news_between(before, after, watches):
    """The news of these watches from the one shown web to the other."""
    letters = changed_letters(before.web, after.web)
    news = []
    for watch in in_order(watches):
        # What has no changed letter is not worked out anew.
        if has_any(watch, letters):
            news.extend(changed_cells(before.web.reckoning, watch, before.wide(watch), after.wide(watch)))
    return news


def changed_cells(reckoning, watch, before, after):
    """The news of one watch: the cells in which its tables are not the same."""
    news = []
    for row in range(len(before)):
        for column in range(len(before)):
            was, now = before[row][column], after[row][column]
            if was != now:
                news.append((watch, row, column, told_worth(reckoning, was), told_worth(reckoning, now)))
    return news


def changed_letters(one, other):
    """The list of the letters of the roads that are not the same in two webs of the same places."""
    roads = [road[:3] for road in (*one.roads, *other.roads)]
    return [road[1] for road in roads if one.worth(*road) != other.worth(*road)]


def has_any(watch, letters):
    """Whether one of the letters stands in the watch."""
    return any([letter in watch for letter in letters])
