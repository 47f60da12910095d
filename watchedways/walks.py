"""Walks from spot to neighbouring spot of a word.

A word's spots and their neighbours are handed on as LINKS here: a list with the
ascending list of the neighbours of each spot.
"""

from heapq import heappop, heappush

UP = 1
DOWN = -1


def links_of(book, word):
    """The links of the word's spots by the watches of a book."""
    return links_through(book.watches, word)


def links_through(pieces, word):
    """The links of the word's spots by any words."""
    links = [[] for _ in range(len(word) + 1)]
    for piece in pieces:
        low = word.find(piece)
        while low >= 0:
            high = low + len(piece)
            links[low].append(high)
            links[high].append(low)
            low = word.find(piece, low + 1)
    return [sorted(spots) for spots in links]


def leads_through(pieces, word):
    """Whether these words lead from the begin of the word to its end."""
    return len(word) in steps_to(links_through(pieces, word), 0)


def steps_to(links, goal):
    """The dict from the spots that lead to the goal to the fewest steps to it."""
    steps = {goal: 0}
    ring = [goal]
    while ring:
        farther = []
        for spot in ring:
            for mate in links[spot]:
                if mate not in steps:
                    steps[mate] = steps[spot] + 1
                    farther.append(mate)
        ring = farther
    return steps


def class_of(links, spot):
    """The ascending tuple of all spots that neighbours lead to this one."""
    return tuple(sorted(steps_to(links, spot)))


def fewest_walk(book, word):
    """The walk through the word with the fewest spots, of these the least, or None."""
    links = links_of(book, word)
    steps = steps_to(links, len(word))
    if 0 not in steps:
        return None
    walk = [0]
    while walk[-1] != len(word):
        here = walk[-1]
        nearer = [spot for spot in links[here] if steps[spot] < steps[here]]
        walk.append(nearer[0])
    return tuple(walk)


def calmest_walk(book, word):
    """The walk with the fewest turns, then the fewest spots, then the least, or None.

    It comes to no spot twice: a round would turn somewhere within, and leaving it out
    makes at most one turn in its place.
    """
    links = links_of(book, word)
    costs = costs_to(links, len(word))
    here, way = 0, UP
    if (here, way) not in costs:
        return None
    walk = [here]
    while here != len(word):
        here, way = calmest_step(links, costs, here, way)
        walk.append(here)
    return tuple(walk)


def costs_to(links, goal):
    """The dict from (spot, way) to the least (turns, steps) that are still to come.

    The way is that by which one came to the spot.
    """
    costs = {}
    queue = [(0, 0, goal, UP)]
    while queue:
        turns, steps, spot, way = heappop(queue)
        if (spot, way) in costs:
            continue
        costs[(spot, way)] = (turns, steps)
        for earlier in links[spot]:
            if way_between(earlier, spot) == way:
                heappush(queue, (turns, steps + 1, earlier, way))
                heappush(queue, (turns + 1, steps + 1, earlier, -way))
    return costs


def calmest_step(links, costs, here, way):
    """The least next spot on a cheapest walk, and the way to it."""
    good = []
    for spot in links[here]:
        onward = way_between(here, spot)
        if (spot, onward) in costs:
            turns, steps = costs[(spot, onward)]
            turned = turns if onward == way else turns + 1
            if (turned, steps + 1) == costs[(here, way)]:
                good.append((spot, onward))
    return good[0]


def way_between(here, there):
    """UP or DOWN, as it goes from the one spot to the other."""
    return UP if here < there else DOWN
