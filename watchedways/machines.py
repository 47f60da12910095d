"""What tongues are worked out with.

A MACHINE is a tuple (moves, ends): for each state the tuple of the states to which the signs
lead, and the ascending tuple of the states at which a text may end; texts begin at the state 0.
All machines that are handed on here are in the shortest form, so they are equal exactly if
their texts are. They may have many more states than a tongue.
"""

from watchedways.errors import TooMany
from watchedways.merging import merged_states, states_ahead

# Twice as many as callers ask for: what would go on beyond all bounds ends here.
MOST_THINGS = 10000


class Machines:
    """The reckoning of machines of so many signs."""

    def __init__(self, many):
        stay = tuple([1] * many)
        self.none = ((tuple([0] * many),), ())
        self.one = ((stay, stay), (0,))

    def greatest(self):
        """The machine of all texts."""
        return (self.none[0], (0,))

    def join(self, a, b):
        """The machine of the texts of both."""
        return of_both(a, b)

    def times(self, a, b):
        """The machine of the texts of the first with one of the second behind."""
        return one_behind(a, b)

    def meet(self, a, b):
        """The machine of the texts that belong to both."""
        return in_both(a, b)

    def left(self, a, c):
        """The machine of all texts that make one of c behind each text of a."""
        return behind_each(a, c)

    def right(self, c, a):
        """The machine of all texts that make one of c ahead of each text of a."""
        return ahead_of_each(c, a)


def machine_of(many, first, after, is_end):
    """The machine whose states are all things that so many signs lead to from the first one.

    after(thing, at) is the thing to which the sign with this index leads from the thing.
    """
    things = [first]
    states = {first: 0}
    moves = []
    while len(moves) < len(things):
        row = []
        for at in range(many):
            thing = after(things[len(moves)], at)
            if thing not in states:
                if len(things) == MOST_THINGS:
                    raise TooMany()
                states[thing] = len(things)
                things.append(thing)
            row.append(states[thing])
        moves.append(row)
    return merged(moves, [is_end(thing) for thing in things])


def merged(moves, flags):
    """The machine of states that stand in the order of the least texts that lead to them."""
    classes = merged_states(moves, flags)
    kept_moves, ends = [], []
    for state, name in enumerate(classes):
        if name == len(kept_moves):
            kept_moves.append(tuple([classes[there] for there in moves[state]]))
            if flags[state]:
                ends.append(name)
    return (tuple(kept_moves), tuple(ends))


def shortest(moves, ends):
    """The machine of any states, perhaps numbered otherwise, standing twice or never reached."""
    flags = end_flags(len(moves), ends)

    def after(state, at):
        return moves[state][at]

    return machine_of(len(moves[0]), 0, after, lambda state: flags[state])


def end_flags(many, ends):
    """For each of so many states whether it is one of the ends."""
    flags = [False] * many
    for state in ends:
        flags[state] = True
    return flags


def flags_of(machine):
    """For each state of the machine whether it is one of its ends."""
    return end_flags(len(machine[0]), machine[1])


def of_both(a, b):
    """The machine of all texts of the one and all of the other."""
    ends, others = flags_of(a), flags_of(b)
    return of_pairs(a, b, lambda pair: ends[pair[0]] or others[pair[1]])


def in_both(a, b):
    """The machine of the texts that belong to the one and to the other."""
    ends, others = flags_of(a), flags_of(b)
    return of_pairs(a, b, lambda pair: ends[pair[0]] and others[pair[1]])


def of_pairs(a, b, is_end):
    """The machine of the pairs of states of two machines that read the same text."""

    def after(pair, at):
        return (a[0][pair[0]][at], b[0][pair[1]][at])

    return machine_of(len(a[0][0]), (0, 0), after, is_end)


def one_behind(a, b):
    """The machine of all texts of the first with one of the second behind."""
    ends, lasts = flags_of(a), flags_of(b)

    def begun(state, lot):
        return (state, with_first(lot) if ends[state] else lot)

    def after(thing, at):
        return begun(a[0][thing[0]][at], moved(b[0], thing[1], at))

    def is_end(thing):
        return any([lasts[state] for state in thing[1]])

    return machine_of(len(a[0][0]), begun(0, ()), after, is_end)


def repeated(a):
    """The machine of any number of texts, also none, one behind the other."""
    ends = flags_of(a)

    def after(thing, at):
        lot = moved(a[0], thing[0], at)
        if any([ends[state] for state in lot]):
            return (with_first(lot), True)
        return (lot, False)

    return machine_of(len(a[0][0]), ((0,), True), after, lambda thing: thing[1])


def backwards(a):
    """The machine of the texts read backwards."""
    ahead = states_ahead(a[0])

    def after(lot, at):
        return tuple(sorted([state for there in lot for state in ahead[at][there]]))

    return machine_of(len(a[0][0]), a[1], after, lambda lot: 0 in lot)


def behind_each(a, c):
    """The machine of all texts that make one of c behind each text of a."""
    ends, lasts = flags_of(a), flags_of(c)
    first = tuple(sorted({state for mate, state in pairs_of(a, c) if ends[mate]}))

    def after(lot, at):
        return moved(c[0], lot, at)

    return machine_of(len(a[0][0]), first, after, lambda lot: all([lasts[state] for state in lot]))


def ahead_of_each(c, a):
    """The machine of all texts that make one of c ahead of each text of a."""
    bad = bad_pairs(c, a)
    return shortest(c[0], [state for state in range(len(c[0])) if (state, 0) not in bad])


def bad_pairs(c, a):
    """The dict of True for the pairs of states from which a text leads to an end of a, and to none of c."""
    ends = flags_of(c)
    bad = {(state, mate): True for state in range(len(ends)) for mate in a[1] if not ends[state]}
    ahead, mates_ahead = states_ahead(c[0]), states_ahead(a[0])
    waiting = list(bad)
    while waiting:
        state, mate = waiting.pop()
        for at in range(len(ahead)):
            for pair in [(one, other) for one in ahead[at][state] for other in mates_ahead[at][mate]]:
                if pair not in bad:
                    bad[pair] = True
                    waiting.append(pair)
    return bad


def is_within(a, b):
    """Whether all texts of a are texts of b."""
    ends, others = flags_of(a), flags_of(b)
    return all([others[mate] for state, mate in pairs_of(a, b) if ends[state]])


def pairs_of(a, b):
    """The list of the pairs of states to which one and the same text leads."""
    pairs = [(0, 0)]
    seen = {(0, 0): True}
    at = 0
    while at < len(pairs):
        state, mate = pairs[at]
        for pair in zip(a[0][state], b[0][mate]):
            if pair not in seen:
                seen[pair] = True
                pairs.append(pair)
        at += 1
    return pairs


def moved(moves, lot, at):
    """The ascending lot of the states to which the sign leads from those of a lot."""
    return tuple(sorted({moves[state][at] for state in lot}))


def with_first(lot):
    """The ascending lot with the state 0."""
    return lot if 0 in lot else (0, *lot)
