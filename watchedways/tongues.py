"""Tongues: lots of texts that are told by states."""

from watchedways.errors import (
    BadEnds, BadMany, BadMoves, BadSigns, BadText, BadTexts, BadTimes, BadTongue, TooMany,
)
from watchedways.faults import is_below
from watchedways.kinds import is_integer, is_row
from watchedways.machines import backwards, end_flags, machine_of, repeated, shortest

MOST_SIGNS = 3
MOST_STATES = 200
MOST_TEXTS = 20
MOST_TEXT_SIGNS = 12
MOST_FIRST_TEXTS = 20
MOST_SIZE = 1000


class Tongue:
    """The texts that lead from the state 0 to an end, told in the shortest form."""

    def __init__(self, signs, moves, ends):
        check_signs(signs)
        check_moves(len(signs), moves)
        if not is_ascending_side(len(moves), ends):
            raise BadEnds(ends)
        machine = shortest(moves, ends)
        self.signs = signs
        self.moves = machine[0]
        self.ends = machine[1]

    def __eq__(self, other):
        if not isinstance(other, Tongue) or self.signs != other.signs:
            return False
        return self.moves == other.moves and self.ends == other.ends

    def has(self, text):
        """Whether the text belongs to it."""
        if not is_text(self.signs, text):
            raise BadText(text)
        state = 0
        for sign in text:
            state = self.moves[state][self.signs.index(sign)]
        return state in self.ends


def is_signs(thing):
    """Whether it is a string of 1 to 3 unlike digits, ascending."""
    if not isinstance(thing, str) or not 1 <= len(thing) <= MOST_SIGNS:
        return False
    if not all([sign in "0123456789" for sign in thing]):
        return False
    return all([sign < further for sign, further in zip(thing, thing[1:])])


def is_text(signs, thing):
    """Whether it is a string of these signs."""
    return isinstance(thing, str) and all([sign in signs for sign in thing])


def is_ascending_side(many, thing):
    """Whether it is an ascending row of unlike integers from 0 on below this."""
    if not is_row(thing) or not all([is_below(many, state) for state in thing]):
        return False
    return all([state < further for state, further in zip(thing, thing[1:])])


def check_signs(signs):
    """Raise BadSigns if these are none."""
    if not is_signs(signs):
        raise BadSigns(signs)


def check_moves(many, moves):
    """Raise BadMoves if it is no row of states, or for the first one that does not lead on by so many signs."""
    if not is_row(moves) or not 1 <= len(moves) <= MOST_STATES:
        raise BadMoves(-1)
    for at, row in enumerate(moves):
        if not is_row(row) or len(row) != many or not all([is_below(len(moves), state) for state in row]):
            raise BadMoves(at)


def check_texts(signs, texts):
    """Raise BadTexts if it is no row of at most 20 texts, or for the first one that is none or too long."""
    if not is_row(texts) or len(texts) > MOST_TEXTS:
        raise BadTexts(-1)
    for at, text in enumerate(texts):
        if not is_text(signs, text) or len(text) > MOST_TEXT_SIGNS:
            raise BadTexts(at)


def check_tongue(tongue):
    """Raise BadTongue if it is none."""
    if not isinstance(tongue, Tongue):
        raise BadTongue(tongue)


def machine_in(tongue):
    """The machine by which the tongue keeps its texts."""
    return (tongue.moves, tongue.ends)


def tongue_from(signs, machine):
    """The tongue of a machine; TooMany if it has too many states."""
    if len(machine[0]) > MOST_STATES:
        raise TooMany()
    return Tongue(signs, machine[0], machine[1])


def tongue_of(signs, texts):
    """The tongue of just these texts."""
    check_signs(signs)
    check_texts(signs, texts)

    def after(begin, at):
        # Whatever begins no text leads to the one thing None, and stays there.
        if begin is None or not any([text.startswith(begin + signs[at]) for text in texts]):
            return None
        return begin + signs[at]

    return tongue_from(signs, machine_of(len(signs), "", after, lambda begin: begin in texts))


def first_texts(tongue, many):
    """The list of the first texts of the tongue, so many or all."""
    check_tongue(tongue)
    if not is_integer(many) or not 1 <= many <= MOST_FIRST_TEXTS:
        raise BadMany(many)
    found = []
    # Which states lead to an end by 0, 1, 2 .. signs.
    good = [end_flags(len(tongue.moves), tongue.ends)]
    idle = 0
    # The texts of a tongue without end leave out no row of as many sizes as it has states.
    while len(found) < many and idle < len(tongue.moves):
        if good[-1][0]:
            found.extend(texts_of_size(tongue, good, many - len(found)))
            idle = 0
        else:
            idle += 1
        good.append([any([good[-1][there] for there in row]) for row in tongue.moves])
    return found


def texts_of_size(tongue, good, many):
    """The first texts, so many or all, of the size for which the last flags are."""
    found = [("", 0)]
    for flags in good[-2::-1]:
        longer = []
        for text, state in found:
            for sign, there in zip(tongue.signs, tongue.moves[state]):
                if flags[there]:
                    longer.append((text + sign, there))
        found = longer[:many]
    return [text for text, _ in found]


def many_texts(tongue, size):
    """The number of the texts of the tongue with so many signs."""
    check_tongue(tongue)
    if not is_integer(size) or not 0 <= size <= MOST_SIZE:
        raise BadTimes(size)
    counts = [1 if flag else 0 for flag in end_flags(len(tongue.moves), tongue.ends)]
    for _ in range(size):
        counts = [sum([counts[there] for there in row]) for row in tongue.moves]
    return counts[0]


def again(tongue):
    """The tongue of any number of its texts, also none, one behind the other."""
    check_tongue(tongue)
    return tongue_from(tongue.signs, repeated(machine_in(tongue)))


def turned_tongue(tongue):
    """The tongue of its texts read backwards."""
    check_tongue(tongue)
    return tongue_from(tongue.signs, backwards(machine_in(tongue)))
