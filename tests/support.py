"""What several tests need: things of every kind, and searches through everything."""

from itertools import combinations, product
from random import Random

from watchedways.books import Book
from watchedways.errors import BadWord
from watchedways.halls import Hall
from watchedways.lengths import Lengths
from watchedways.numbers import Numbers
from watchedways.ratios import Ratio
from watchedways.reckonings import Reckoning
from watchedways.speaking import Tongues
from watchedways.tongues import Tongue, tongue_of
from watchedways.watchers import Watchers
from watchedways.webs import Web


def nested(deep):
    """A list, tuple and dict within one another, so deep."""
    thing = "a"
    for level in range(deep):
        thing = ([thing], (thing, True), {"a": thing})[level % 3]
    return thing


def strange_things():
    """Things of every kind that may be handed in: none of them a word of letters."""
    return [
        None, True, False, 0, 1, -1, 2, 41, 10 ** 30, "", "A", "1", " ", "a b", "a\n", "\n", "a-b", "~",
        [], ["a"], [0, 1], [[]], (), ("a",), ("on",), (None,), (True,), (False, 1), ((),), ([], {}),
        {}, {"a": 1}, {1: "a"}, {None: ("on", "a")}, {(): []}, nested(20), [nested(19)], (nested(19),),
        Book([]), Book(["a", "ab"]), (Book([]), 1), [Book(["b"])], BadWord("a"),
        Ratio(0), Ratio(1), Ratio(1, 2), (Ratio(0), Ratio(1)), Lengths(), told(chain_tables(3)), [Lengths()],
        Numbers(), Tongues("01"), tongue_of("01", ["", "01"]), Tongue("0", [[0]], [0]), (Tongues("2"),),
        Web(Lengths(), ["a", "b"], [("a", "x", "b", 3)]), [Web(Numbers(), ("a",), [])],
        Watchers([]), Watchers([("a", ["ab"])]), Hall(Lengths(), ["a"]), (Hall(Numbers(), ["a"]), Watchers([])),
    ]


def words_of(letters, most):
    """All words of these letters with at most so many letters."""
    return ["".join(word) for size in range(1, most + 1) for word in product(letters, repeat=size)]


def piece_is_watch(watches, word, one, other):
    low, high = min(one, other), max(one, other)
    return low < high and word[low:high] in watches


def reaches(pieces, word):
    """Whether one can go from the begin of the word to its end by these pieces, found by going on and on."""
    reached, fresh = {0}, True
    while fresh:
        fresh = {
            other for spot in reached for other in range(len(word) + 1)
            if other not in reached and piece_is_watch(pieces, word, spot, other)
        }
        reached |= fresh
    return len(word) in reached


def order_of_words(word):
    """What words are sorted by: shorter ones first."""
    return len(word), word


def sub_lots(things):
    """All tuples of some of the things, in their order."""
    return [tuple(lot) for size in range(len(things) + 1) for lot in combinations(things, size)]


def least_of(lots):
    """Those lots within which there is no other one, in the order given."""
    return [lot for lot in lots if not any(set(other) < set(lot) for other in lots)]


def greatest_of(lots):
    """Those lots that are within no other one, in the order given."""
    return [lot for lot in lots if not any(set(lot) < set(other) for other in lots)]


def all_zigzags(watches, word):
    """All zigzags of the word, found by trying every way on."""
    found, open_ways = [], [(0,)]
    while open_ways:
        way = open_ways.pop()
        if way[-1] == len(word):
            found.append(way)
            continue
        for spot in range(len(word) + 1):
            if spot not in way and piece_is_watch(watches, word, way[-1], spot):
                open_ways.append(way + (spot,))
    return found


def turns_of(way):
    """The number of spots at which a zigzag goes on in the other direction."""
    return sum((b > a) != (c > b) for a, b, c in zip(way, way[1:], way[2:]))


def all_cuts(watches, word):
    """All cuts of the word, found by trying every lot of spots."""
    found = []
    many = len(word) + 1
    for flags in product((False, True), repeat=many):
        if not flags[0] or flags[-1]:
            continue
        apart = all(
            flags[one] == flags[other]
            for one in range(many) for other in range(many)
            if piece_is_watch(watches, word, one, other)
        )
        if apart:
            found.append(tuple(spot for spot in range(many) if flags[spot]))
    return found


def caught(call, *given):
    """The class and the value of the error that a call raises, or None and its answer."""
    try:
        return None, call(*given)
    except ValueError as error:
        return error.__class__, error.value


def small_cases():
    """Books and words small enough to be searched through."""
    lots = []
    for size in range(1, 11):
        for lengths in ((1,), (2, 3), (3, 5), (2, 5), (3, 4), (1, 4), (4, 6), (5, 7), (2, 7), (2, 3, 5), (3, 7, 8)):
            lots.append((["a" * length for length in lengths], "a" * size))
    chance = Random(5)
    for _ in range(600):
        word = "".join(chance.choice("ab" if chance.random() < 0.7 else "abc") for _ in range(chance.randint(1, 9)))
        pieces = sorted({word[i:j] for i in range(len(word)) for j in range(i + 1, len(word) + 1)} - {word})
        pieces.append("ddd")
        lots.append((chance.sample(pieces, min(len(pieces), chance.randint(0, 6))), word))
    return lots


LONG_WORDS = ["a" * 40, "ab" * 20, "abc" * 13 + "a", "a" * 39 + "b", "aab" * 13 + "a", "abcdefghij" * 4]
LONG_BOOKS = [["a" * size for size in sizes] for sizes in (range(1, 13), (12, 11), (7, 11), (12, 8, 5), (1, 12))]
LONG_BOOKS.append(["ab", "ba", "aba", "bab", "abab", "baba", "a", "b", "abc", "bca", "cab", "aab"])
LONG_BOOKS.append(["aba", "ab", "babab", "abc", "bcab", "aab", "baa"])


def turns_and_spots(watches, word):
    """The fewest turns of a zigzag and with these the fewest spots, by rounds of steps; or None."""
    spots = range(len(word) + 1)
    reached = {(0, 0, True): 1}
    ring = [(0, 0, True)]
    while ring:
        farther = []
        for spot, turns, up in ring:
            for other in spots:
                if piece_is_watch(watches, word, spot, other):
                    state = (other, turns + ((other > spot) != up), other > spot)
                    if state not in reached and state[1] <= len(word):
                        reached[state] = reached[spot, turns, up] + 1
                        farther.append(state)
        ring = farther
    ends = [(state[1], reached[state]) for state in reached if state[0] == len(word)]
    return min(ends) if ends else None


def chain_tables(many):
    """The tables of the greater and the lesser worth."""
    worths = range(many)
    joins = [[max(a, b) for b in worths] for a in worths]
    return joins, [[min(a, b) for b in worths] for a in worths], 0, many - 1


def bounded_tables(many):
    """The greater one, and sums that stop at the bottom."""
    joins, _, none, one = chain_tables(many)
    worths = range(many)
    return joins, [[max(0, a + b - one) for b in worths] for a in worths], none, one


def lot_tables(products, one):
    """The tables of the lots of some things, by a table of their products."""
    many = len(products)
    lots = range(2 ** many)

    def times(a, b):
        made = {products[p][q] for p in range(many) for q in range(many) if a >> p & 1 and b >> q & 1}
        return sum(2 ** thing for thing in made)

    return [[a | b for b in lots] for a in lots], [[times(a, b) for b in lots] for a in lots], 0, 2 ** one


FIRST_STAYS = [[0, 1, 2], [1, 1, 1], [2, 2, 2]]
FIRST_STAYS_OR_END = [[0, 1, 2, 3], [1, 1, 1, 3], [2, 2, 2, 3], [3, 3, 3, 3]]
THREE_TURNS = [[0, 1, 2], [1, 2, 0], [2, 0, 1]]


def told(tables):
    return Reckoning(*tables)


def good_tables():
    """Tables of reckonings of many kinds and sizes."""
    found = [chain_tables(many) for many in (2, 3, 4, 9, 16)]
    found += [bounded_tables(many) for many in (3, 4, 7, 16)]
    found += [lot_tables([[0]], 0), lot_tables([[0, 1], [1, 0]], 0), lot_tables([[0, 1], [1, 1]], 0)]
    found += [lot_tables(THREE_TURNS, 0), lot_tables(FIRST_STAYS, 0), lot_tables(FIRST_STAYS_OR_END, 0)]
    found += [renamed(lot_tables(FIRST_STAYS, 0), [5, 2, 7, 0, 1, 6, 4, 3]), renamed(bounded_tables(4), [2, 0, 3, 1])]
    return found


def renamed(tables, names):
    """The tables with each worth called otherwise."""
    joins, products, none, one = tables
    back = [names.index(worth) for worth in range(len(names))]

    def under_names(table):
        return [[names[table[back[a]][back[b]]] for b in range(len(names))] for a in range(len(names))]

    return under_names(joins), under_names(products), names[none], names[one]


def texts_of(signs, most):
    """All texts of these signs with at most so many signs, in order."""
    return ["".join(text) for size in range(most + 1) for text in product(signs, repeat=size)]


def random_states(chance, signs, most):
    """Moves and ends of a machine with at most so many states."""
    many = chance.randint(1, most)
    moves = [[chance.randrange(many) for _ in signs] for _ in range(many)]
    return moves, sorted(chance.sample(range(many), chance.randint(0, many)))


def random_tongue(chance, signs, most):
    """A tongue of a machine with at most so many states."""
    return Tongue(signs, *random_states(chance, signs, most))


def random_worth(chance, reckoning):
    """A worth of the reckoning, now and then none."""
    if chance.random() < 0.1:
        return reckoning.none
    if isinstance(reckoning, Reckoning):
        return chance.randrange(len(reckoning.joins))
    if isinstance(reckoning, Lengths):
        return chance.choice([0, 1, 2, 3, 7, 20, 10 ** 30])
    if isinstance(reckoning, Numbers):
        return chance.choice([1, 2, -1, Ratio(1, 2), Ratio(-3, 7), Ratio(5), 10 ** 30, Ratio(1, 10 ** 20)])
    texts = texts_of(reckoning.signs, 2)
    return tongue_of(reckoning.signs, chance.sample(texts, min(len(texts), chance.randint(1, 3))))


def kinds_of_reckonings():
    """Reckonings of every kind, some whose product does not swap."""
    found = [told(chain_tables(2)), told(chain_tables(5)), told(bounded_tables(4)), told(lot_tables(FIRST_STAYS, 0))]
    return found + [told(lot_tables(THREE_TURNS, 0)), Lengths(), Numbers(), Tongues("01"), Tongues("7")]


def joining_reckonings():
    """All these but that of numbers."""
    return [reckoning for reckoning in kinds_of_reckonings() if not isinstance(reckoning, Numbers)]


NAMES = ["b", "a", "cc", "zebra", "abcdefgh", "q", "r", "s", "t", "u"]


def random_web(chance, reckoning, places, letters, roads):
    """A web of so many places with at most so many roads with these letters."""
    names = NAMES[:places]
    ends = list(product(names, letters, names))
    kept = []
    for one, letter, other in chance.sample(ends, min(len(ends), roads)):
        worth = random_worth(chance, reckoning)
        if worth != reckoning.none:
            kept.append((one, letter, other, worth))
    return Web(reckoning, names, kept)


def random_table(chance, reckoning, many):
    """A table of so many places; for numbers also with integers in it."""
    return tuple(tuple(random_worth(chance, reckoning) for _ in range(many)) for _ in range(many))


def worked_table(web, word):
    """The table of the word, summed over all ways: lists of the worths of all of them, place by place."""
    reckoning, table = web.reckoning, []
    for start in web.places:
        ways = {place: [] for place in web.places}
        ways[start] = [reckoning.one]
        for letter in word:
            longer = {place: [] for place in web.places}
            for one, sign, other, worth in web.roads:
                if sign == letter:
                    longer[other] += [reckoning.times(way, worth) for way in ways[one]]
            ways = longer
        table.append(tuple(joined(reckoning, ways[place]) for place in web.places))
    return tuple(table)


def joined(reckoning, worths):
    found = reckoning.none
    for worth in worths:
        found = reckoning.join(found, worth)
    return found


def only_ratios(table):
    """Whether it is a tuple of tuples of Ratios."""
    return all(type(row) is tuple and all(type(item) is Ratio for item in row) for row in table)


def on(watch):
    return ("on", watch)


def back(watch):
    return ("back", watch)


# Things that look like rules and are none.
NO_RULES = [
    (), [on("a")], (["on", "a"],), (("on",),), (("on", "a", "b"),), (("on", "a", 1),), (on(""),), (on("a" * 13),),
    (on("A"),), (on(1),), (on(None),), (back("a"),), (on("a"), back("a")), (back("a"), on("a")), (("On", "a"),),
    (("forth", "a"),), (("", "a"),), ((None, "a"),), ((True, "a"),), (on("a"), on("a"), ("off", "a"), on("a")),
    (on("a"), ["on", "a"], on("a")), ("on", "a"), on("a"), "on a", ("on a",), (on("a"), None), (on("a"),) * 81,
    ((("on",), "a"),), (on(("a",)),), {0: on("a")}, (on("a"), on("a" * 13), on("a")), (on("a"), back("a "), on("a")),
    ((on("a"),),), (on("a"), (on("a"),)), ((["on"], ["a"]),), (("back", "a"), ("back", "a")),
]

# Books, words that they tell, and rules for them that turn, come to a spot twice, or go one way.
TOLD_WORDS = [
    (["aaaa", "aaa"], "aaaaa", (on("aaaa"), back("aaa"), on("aaaa"))),
    (["ab", "b", "ba"], "aba", (on("ab"), back("b"), on("ba"))),
    (["ab", "b", "ba"], "aba", (on("ab"), back("b"), on("b"), back("ab"), on("ab"), back("b"), on("ba"))),
    (["xyxy", "yxy", "yxyx"], "xyxyx", (on("xyxy"), back("yxy"), on("yxyx"))),
    (["x", "y"], "xxyx", (on("x"), on("x"), on("y"), on("x"))),
    (["x", "y"], "xy", (on("x"), back("x"), on("x"), on("y"), back("y"), on("y"))),
    (["aaaa", "aaa"], "aaaaaa", (on("aaaa"), back("aaa"), on("aaaa"), back("aaa"), on("aaaa"))),
    (["abc", "bc", "bca"], "abca", (on("abc"), back("bc"), on("bca"))),
]
