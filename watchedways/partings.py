"""Two webs that are alike in all that is shown, and not in what is wanted."""

from watchedways.books import check_asked
from watchedways.errors import BadMany, BadRoads, TooMany
from watchedways.faults import is_below
from watchedways.kinds import is_integer, is_row
from watchedways.reckon import check_reckoning
from watchedways.walks import class_of, links_of
from watchedways.webs import Web, wide_table
from watchedways.words import check_word, is_letter

MOST_PARTED_LETTERS = 4
MOST_PLACES_OF_ROADS = 100
MOST_ROADS_HANDED_IN = 200
PLACE_NAMES = "abcdefghij"


def parting(book, word, reckoning):
    """Two webs with roads all worth one that part the word from the book, or None if it tells it."""
    check_asked(book, word)
    check_reckoning(reckoning)
    if len(word) > MOST_PARTED_LETTERS:
        raise TooMany()
    parted = parted_roads(book, word)
    if parted is None:
        return None
    places, one, other = parted
    names = list(PLACE_NAMES[:places])
    return (named_web(reckoning, names, one), named_web(reckoning, names, other))


def named_web(reckoning, names, roads):
    """The web whose roads are all worth one, with a name in the place of each number."""
    return Web(reckoning, names, [(names[start], letter, names[end], reckoning.one) for start, letter, end in roads])


def parting_roads(book, word):
    """The tuple of the number of places and of the roads of two webs that part the word, or None."""
    check_asked(book, word)
    return parted_roads(book, word)


def parted_roads(book, word):
    """Two copies of the word, and the same with the copies of all spots outside a cut exchanged."""
    links = links_of(book, word)
    inside = class_of(links, 0)
    if len(word) in inside:
        return None
    one, other = [], []
    for spot, letter in enumerate(word):
        # No watched piece goes over the edge of the cut; where a letter does, the copies are crossed.
        crossed = (spot in inside) != (spot + 1 in inside)
        for copy in (0, 1):
            one.append((copied(spot, copy), letter, copied(spot + 1, copy)))
            other.append((copied(spot, copy), letter, copied(spot + 1, 1 - copy if crossed else copy)))
    return (2 * len(links), tuple(one), tuple(other))


def copied(spot, copy):
    """The number of the place that is this copy, 0 or 1, of the spot."""
    return 2 * spot + copy


def is_parting(book, word, reckoning, thing):
    """Whether it is a parting of the book and the word in the reckoning."""
    check_asked(book, word)
    check_reckoning(reckoning)
    if not isinstance(thing, tuple) or len(thing) != 2:
        return False
    one, other = thing
    if not isinstance(one, Web) or not isinstance(other, Web) or one.places != other.places:
        return False
    if one.reckoning != reckoning or other.reckoning != reckoning:
        return False
    if not all([wide_table(one, watch) == wide_table(other, watch) for watch in book.watches]):
        return False
    return wide_table(one, word) != wide_table(other, word)


def tables_of_roads(places, roads, word):
    """The ascending list of all (p, q) with a way of the word from p to q."""
    if not is_integer(places) or not 1 <= places <= MOST_PLACES_OF_ROADS:
        raise BadMany(places)
    check_numbered_roads(places, roads)
    check_word(word)
    ways = {}
    for start, letter, end in roads:
        ways.setdefault((start, letter), []).append(end)
    pairs = []
    for start in range(places):
        ends = [start]
        for letter in word:
            ends = sorted({end for here in ends for end in ways.get((here, letter), [])})
        pairs.extend([(start, end) for end in ends])
    return pairs


def check_numbered_roads(places, roads):
    """Raise BadRoads if it is no row of at most 200 roads between numbered places, or for the first wrong one."""
    if not is_row(roads) or len(roads) > MOST_ROADS_HANDED_IN:
        raise BadRoads(-1)
    for at, road in enumerate(roads):
        if not is_numbered_road(places, road):
            raise BadRoads(at)


def is_numbered_road(places, thing):
    """Whether it is a tuple of a place, a letter and a place."""
    if not isinstance(thing, tuple) or len(thing) != 3:
        return False
    return is_below(places, thing[0]) and is_letter(thing[1]) and is_below(places, thing[2])
