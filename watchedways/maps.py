"""Maps from a told reckoning to another one."""

from watchedways.errors import BadMap, BadWeb, TooMany
from watchedways.reckonings import Reckoning, check_told
from watchedways.webs import Web

MOST_MAPPED_WORTHS = 8


def is_map(one, other, thing):
    """Whether it is a map from the one reckoning to the other."""
    check_told(one)
    check_told(other)
    if not isinstance(thing, tuple) or len(thing) != len(one.joins):
        return False
    if not all([other.is_worth(worth) for worth in thing]):
        return False
    if thing[one.none] != other.none or thing[one.one] != other.one:
        return False
    return keeps_all(thing, wanted(one, other))


def maps(one, other):
    """The ascending list of all maps from the one reckoning to the other."""
    check_told(one)
    check_told(other)
    if len(one.joins) > MOST_MAPPED_WORTHS:
        raise TooMany()
    found = [(other.none,) * len(one.joins)]
    order = from_above(one)
    for at, worth in enumerate(order):
        ready = wanted_at(wanted(one, other), order, at)
        images = images_of(one, other, worth)
        found = [longer for led in found for longer in led_on(led, worth, images) if keeps_all(longer, ready)]
    return sorted(found)


def images_of(one, other, worth):
    """The worths to which a map may lead this one, if none and one alone are looked at."""
    if worth == one.none:
        return [other.none]
    return [other.one] if worth == one.one else list(range(len(other.joins)))


def led_on(led, worth, images):
    """The list of the same tuples, but with this worth led to one of the images."""
    return [(*led[:worth], image, *led[worth + 1:]) for image in images]


def from_above(reckoning):
    """All worths, each behind all that it is beneath, but none and one ahead of all.

    So the join of two of them never comes behind both, and what a map cannot do shows early.
    """
    worths = list(range(len(reckoning.joins)))
    above = [len([other for other in worths if reckoning.joins[worth][other] == other]) for worth in worths]
    return sorted(worths, key=lambda worth: (worth not in (reckoning.none, reckoning.one), above[worth]))


def wanted(one, other):
    """The list of all (table, a, b, c): to what c is led is to stand there for what a and b are led to."""
    found = []
    for a in range(len(one.joins)):
        for b in range(len(one.joins)):
            found.append((other.joins, a, b, one.joins[a][b]))
            found.append((other.products, a, b, one.products[a][b]))
    return found


def wanted_at(every, order, at):
    """What is wanted of the first worths in the order, up to this one, and not yet of those ahead of it."""
    known = order[:at + 1]
    found = []
    for table, a, b, c in every:
        if order[at] in (a, b, c) and a in known and b in known and c in known:
            found.append((table, a, b, c))
    return found


def keeps_all(led, every):
    """Whether all that is wanted is so."""
    for table, a, b, c in every:
        if table[led[a]][led[b]] != led[c]:
            return False
    return True


def mapped(web, other, led):
    """The web over the other reckoning with each worth led by the map; roads led to none are left out."""
    if not isinstance(web, Web) or not isinstance(web.reckoning, Reckoning):
        raise BadWeb(web)
    check_map(web.reckoning, other, led)
    roads = [(start, letter, end, led[worth]) for start, letter, end, worth in web.roads]
    return Web(other, web.places, [road for road in roads if road[3] != other.none])


def mapped_table(one, other, led, table):
    """The table with each worth led by the map."""
    check_map(one, other, led)
    return tuple([tuple([led[worth] for worth in row]) for row in table])


def check_map(one, other, led):
    """Raise BadReckoning, or BadMap if it is no map from the one reckoning to the other."""
    if not is_map(one, other, led):
        raise BadMap(led)
