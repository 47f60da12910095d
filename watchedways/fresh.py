"""What is sure in every web in which some known ways are."""

from watchedways.errors import BadKnown
from watchedways.kinds import is_row
from watchedways.words import check_word, in_order, is_name, is_watch

MOST_KNOWN_WATCHES = 12
MOST_KNOWN_PAIRS = 12


def fresh_web(known):
    """The tuple of the list of places and the list of roads of a web with the known ways and no others."""
    check_known(known)
    names = known_names(known)
    roads = fresh_roads(known)
    fresh = {place: True for one, _, other in roads for place in (one, other) if place not in names}
    return (names + list(fresh), roads)


def sure_pairs(known, word):
    """The ascending list of all known names between which there is a way of the word in every such web."""
    check_known(known)
    check_word(word)
    roads = {}
    for one, letter, other in fresh_roads(known):
        roads.setdefault((one, letter), []).append(other)
    names = known_names(known)
    pairs = []
    for name in names:
        ends = ends_of_ways(roads, name, word)
        pairs.extend([(name, end) for end in names if end in ends])
    return pairs


def ends_of_ways(roads, start, word):
    """The dict of True for all places to which a way of the word leads from the start."""
    places = {start: True}
    for letter in word:
        places = {other: True for one in places for other in roads.get((one, letter), [])}
    return places


def known_names(known):
    """The ascending list of all names that stand in pairs."""
    return sorted({name for watch in known for pair in known[watch] for name in pair})


def fresh_roads(known):
    """The list of the roads of the known ways, way after way, each road once."""
    roads = {}
    many = 0
    for watch in in_order(known):
        for one, other in known[watch]:
            between = ["#" + str(many + at) for at in range(1, len(watch))]
            many += len(between)
            for start, letter, end in zip([one, *between], watch, [*between, other]):
                roads[(start, letter, end)] = True
    return list(roads)


def check_known(known):
    """Raise BadKnown if it is no dict of at most 12 watches, or for the first key that is none or has no pairs."""
    if not isinstance(known, dict) or len(known) > MOST_KNOWN_WATCHES:
        raise BadKnown(-1)
    for key in known:
        if not is_watch(key) or not is_row_of_pairs(known[key]):
            raise BadKnown(key)


def is_row_of_pairs(thing):
    """Whether it is a row of at most 12 tuples of two names."""
    return is_row(thing) and len(thing) <= MOST_KNOWN_PAIRS and all([is_pair(item) for item in thing])


def is_pair(thing):
    """Whether it is a tuple of two names."""
    return isinstance(thing, tuple) and len(thing) == 2 and is_name(thing[0]) and is_name(thing[1])
