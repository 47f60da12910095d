"""Webs: places, and roads with a letter and a worth."""

from watchedways.books import check_book
from watchedways.errors import BadLetter, BadMany, BadName, BadTable, BadWeb, BadWord
from watchedways.kinds import is_integer, is_row
from watchedways.reckon import check_reckoning
from watchedways.tables import (
    MOST_PLACES, chained, is_any_table, is_table_of, kept_table, kept_worth, told_table, worked_chain,
)
from watchedways.words import is_letter, is_name, is_word

MOST_ROADS = 80


class Web:
    """Places and roads between them, of one reckoning."""

    def __init__(self, reckoning, places, roads):
        check_reckoning(reckoning)
        check_places(places)
        check_roads(reckoning, places, roads)
        self.reckoning = reckoning
        self.places = tuple(places)
        self.roads = tuple([
            (one, letter, other, kept_worth(reckoning, worth)) for one, letter, other, worth in roads
        ])
        self._worths = {(one, letter, other): worth for one, letter, other, worth in self.roads}

    def __eq__(self, other):
        if not isinstance(other, Web) or self.reckoning != other.reckoning:
            return False
        return self.places == other.places and self._worths == other._worths

    def worth(self, one, letter, other):
        """The worth of the road, or none."""
        if one not in self.places:
            raise BadName(one)
        if not is_letter(letter):
            raise BadLetter(letter)
        if other not in self.places:
            raise BadName(other)
        return self._worths.get((one, letter, other), self.reckoning.none)

    def table(self, word):
        """The table of the word; that of the empty one is the unit."""
        if word != "" and not is_word(word):
            raise BadWord(word)
        return told_table(self.reckoning, wide_table(self, word))

    def tables(self, book):
        """The dict from the watches of the book to their tables."""
        check_book(book)
        return {watch: self.table(watch) for watch in book.watches}


def wide_table(web, word):
    """The table of the word as it is worked with: for tongues it may have any number of states."""
    letters = {letter: letter_table(web, letter) for letter in word}
    return worked_chain(web.reckoning, len(web.places), [letters[letter] for letter in word])


def letter_table(web, letter):
    """The table of the worths of the roads with the letter."""
    return tuple([tuple([web.worth(one, letter, other) for other in web.places]) for one in web.places])


def check_places(places):
    """Raise BadWeb if it is no row of 1 to 10 unlike names, or for the first wrong one."""
    if not is_row(places) or not 1 <= len(places) <= MOST_PLACES:
        raise BadWeb(("places", -1))
    for at, place in enumerate(places):
        if not is_name(place) or place in places[:at]:
            raise BadWeb(("places", at))


def check_roads(reckoning, places, roads):
    """Raise BadWeb if it is no row of at most 80 roads between the places, or for the first wrong one."""
    if not is_row(roads) or len(roads) > MOST_ROADS:
        raise BadWeb(("roads", -1))
    seen = {}
    for at, road in enumerate(roads):
        if not is_road(reckoning, places, road) or road[:3] in seen:
            raise BadWeb(("roads", at))
        seen[road[:3]] = True


def is_road(reckoning, places, thing):
    """Whether it is a tuple of two of the places, a letter between them, and a worth that is not none."""
    if not isinstance(thing, tuple) or len(thing) != 4:
        return False
    one, letter, other, worth = thing
    if one not in places or not is_letter(letter) or other not in places:
        return False
    return reckoning.is_worth(worth) and worth != reckoning.none


def product(reckoning, one, other):
    """The product of two tables of the same size."""
    check_reckoning(reckoning)
    if not is_any_table(reckoning, one):
        raise BadTable(one)
    if not is_table_of(reckoning, len(one), other):
        raise BadTable(other)
    return chained(reckoning, len(one), [kept_table(reckoning, one), kept_table(reckoning, other)])


def is_table(reckoning, many, thing):
    """Whether it is a table of so many places."""
    check_reckoning(reckoning)
    if not is_integer(many) or not 1 <= many <= MOST_PLACES:
        raise BadMany(many)
    return is_table_of(reckoning, many, thing)
