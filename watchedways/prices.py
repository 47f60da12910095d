"""Watches that are offered at a price."""

from watchedways.books import check_asked
from watchedways.choosing import greatest_unable, is_within_any, least_able
from watchedways.cuts import encloses, is_cut
from watchedways.errors import BadOffers, BadPrice
from watchedways.kinds import is_integer
from watchedways.walks import class_of, leads_through, links_through
from watchedways.words import in_order, is_watch

MOST_OFFERS = 8
MOST_OFFERED_PRICE = 10 ** 9


def cheapest(book, word, offers):
    """The tuple of the least price and the lot at it with which the book tells the word, or None."""
    check_offered(book, word, offers)
    # A watch for nothing is not offered, so nothing can be left out of the cheapest lot.
    lots = least_able(in_order(offers), lambda lot: leads_through([*book.watches, *lot], word))
    if not lots:
        return None
    best = min(lots, key=lambda lot: price_of(offers, lot))
    return (price_of(offers, best), best)


def bars(book, word, offers):
    """The tuple of cuts that no lot cheaper than the cheapest one crosses all of, or None."""
    found = cheapest(book, word, offers)
    if found is None:
        return None
    lots = cheaper_lots(offers, found[0])
    return tuple(sorted({class_of(links_through([*book.watches, *lot], word), 0) for lot in lots}))


def is_bars(book, word, offers, price, thing):
    """Whether it is a tuple of cuts that no lot cheaper than the price crosses all of."""
    check_offered(book, word, offers)
    if not is_integer(price) or price < 0:
        raise BadPrice(price)
    if not isinstance(thing, tuple) or not all([is_cut(book, word, item) for item in thing]):
        return False
    idle = [[watch for watch in offers if not crosses(word, watch, cut)] for cut in thing]
    return all([is_within_any(lot, idle) for lot in cheaper_lots(offers, price)])


def cheaper_lots(offers, price):
    """The list of all lots of offers that are cheaper than the price, and within no other one that is."""
    return greatest_unable(list(offers), lambda lot: price_of(offers, lot) >= price)


def price_of(offers, lot):
    """What the watches of the lot cost together."""
    return sum([offers[watch] for watch in lot])


def crosses(word, watch, cut):
    """Whether the watch is a piece of the word between a spot in the cut and one that is not."""
    return not encloses(links_through([watch], word), cut)


def check_offered(book, word, offers):
    """Raise BadBook, BadWord or BadOffers for what is not asked so."""
    check_asked(book, word)
    if not isinstance(offers, dict) or len(offers) > MOST_OFFERS:
        raise BadOffers(-1)
    for key in offers:
        if not is_watch(key) or not is_integer(offers[key]) or not 1 <= offers[key] <= MOST_OFFERED_PRICE:
            raise BadOffers(key)
