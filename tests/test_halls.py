import unittest
from random import Random

from tests.support import (
    caught, chain_tables, kinds_of_reckonings, lot_tables, order_of_words, random_worth, reaches, strange_things, sub_lots,
    told, worked_table, FIRST_STAYS, TOLD_WORDS,
)
from watchedways.books import Book
from watchedways.cuts import cut
from watchedways.errors import (
    BadLetter, BadName, BadNames, BadReckoning, BadWatch, BadWeb, BadWord, BadWorth, NotTold, NothingDone, TooMany,
)
from watchedways.halls import Hall
from watchedways.lengths import Lengths
from watchedways.making import widths, yes_no
from watchedways.numbers import Numbers
from watchedways.ratios import Ratio
from watchedways.reckonings import Reckoning
from watchedways.speaking import Tongues
from watchedways.tongues import again, tongue_of
from watchedways.watchers import Watchers
from watchedways.webs import Web

NAMES = ["ann", "b", "cy", "d", "eve", "f", "g", "hugo", "i"]
WATCHES = ["x", "y", "xy", "yx", "xx", "xyx", "yy", "z", "xz", "yyx"]


class Plain:
    """A hall as the words tell it: all that there was is kept, all tables are worked out anew from all ways."""

    def __init__(self, reckoning, places):
        self.reckoning, self.places = reckoning, places
        self.roads, self.watches, self.past = {}, {}, []

    def web(self, roads=None):
        kept = self.roads if roads is None else roads
        return Web(self.reckoning, self.places, [(*ends, worth) for ends, worth in kept.items()])

    def tables(self, roads, watches):
        web = self.web(roads)
        return {watch: worked_table(web, watch) for watch in watches}

    def turn(self, roads, watches):
        """Turn to this and tell the news."""
        seen = {watch for row in self.watches.values() for watch in row}
        both = seen & {watch for row in watches.values() for watch in row}
        was, now = self.tables(self.roads, both), self.tables(roads, both)
        self.roads, self.watches = roads, watches
        many = range(len(self.places))
        return [
            (watch, row, column, was[watch][row][column], now[watch][row][column])
            for watch in sorted(both, key=order_of_words) for row in many for column in many
            if was[watch][row][column] != now[watch][row][column]
        ]

    def do(self, roads, watches):
        self.past.append((self.roads, self.watches))
        return None, self.turn(roads, watches)

    def road(self, one, letter, other, worth):
        if one not in self.places:
            return BadName, one
        if not (isinstance(letter, str) and len(letter) == 1 and "a" <= letter <= "z"):
            return BadLetter, letter
        if other not in self.places:
            return BadName, other
        if not self.reckoning.is_worth(worth):
            return BadWorth, worth
        roads = {ends: kept for ends, kept in self.roads.items() if ends != (one, letter, other)}
        if worth != self.reckoning.none:
            roads[(one, letter, other)] = worth
        if len(roads) > 80:
            return TooMany, None
        return self.do(roads, self.watches)

    def watcher(self, name):
        if not (isinstance(name, str) and 1 <= len(name) <= 8 and all("a" <= sign <= "z" for sign in name)):
            return BadName, name
        if name in self.watches:
            return BadName, name
        if len(self.watches) == 8:
            return TooMany, None
        return self.do(self.roads, {**self.watches, name: []})

    def watch(self, name, watch):
        if name not in list(self.watches):
            return BadName, name
        good = isinstance(watch, str) and 1 <= len(watch) <= 12 and all("a" <= sign <= "z" for sign in watch)
        if not good or watch in self.watches[name]:
            return BadWatch, watch
        if len(self.watches[name]) == 12:
            return TooMany, None
        return self.do(self.roads, {**self.watches, name: self.watches[name] + [watch]})

    def unwatch(self, name, watch):
        if name not in list(self.watches):
            return BadName, name
        if watch not in self.watches[name]:
            return BadWatch, watch
        return self.do(self.roads, {**self.watches, name: [other for other in self.watches[name] if other != watch]})

    def undo(self):
        if not self.past:
            return NothingDone, None
        return None, self.turn(*self.past.pop())


def drawn_deed(chance, plain):
    """The name of a deed and what it is done with; now and then something wrong."""
    wrong = chance.random() < 0.2
    deed = chance.choice(["road"] * 8 + ["watcher", "watch", "watch", "watch", "unwatch", "undo", "undo"])
    if wrong:
        bad = chance.choice([None, "", "A", 1, True, "q" * 13, ["x"], ("x",), "nobody"])
        if deed == "road":
            given = [chance.choice(plain.places), "x", chance.choice(plain.places), plain.reckoning.one]
            given[chance.randrange(4)] = bad
            return deed, given
        if deed in ("watch", "unwatch"):
            given = [chance.choice(list(plain.watches) + ["nobody"]), chance.choice(WATCHES)]
            given[chance.randrange(2)] = bad
            return deed, given
        return ("watcher", [bad]) if deed == "watcher" else (deed, [])
    if deed == "road":
        ends = (chance.choice(plain.places), chance.choice("xyz"), chance.choice(plain.places))
        worth = chance.choice([random_worth(chance, plain.reckoning), plain.roads.get(ends, plain.reckoning.none)])
        return deed, [*ends, worth]
    if deed == "watcher":
        return deed, [chance.choice(NAMES)]
    if deed in ("watch", "unwatch"):
        return deed, [chance.choice(list(plain.watches) or ["ann"]), chance.choice(WATCHES)]
    return deed, []


class HallTest(unittest.TestCase):
    def assert_like(self, hall, plain):
        """All that can be seen of the hall is as in the plain one."""
        self.assertEqual(hall.all_places(), tuple(plain.places))
        self.assertIs(type(hall.all_places()), tuple)
        watchers = hall.watchers()
        self.assertIs(type(watchers), Watchers)
        self.assertEqual(watchers.names(), sorted(plain.watches))
        for name, watches in plain.watches.items():
            self.assertEqual(watchers.sees([name]), sorted(watches, key=order_of_words))
        seen = {watch for row in plain.watches.values() for watch in row}
        tables = plain.tables(plain.roads, seen)
        for name, watches in plain.watches.items():
            for watch in watches:
                self.assertEqual(hall.seen(name, watch), tables[watch])

    def assert_done(self, hall, plain, deed, given):
        wanted = getattr(plain, deed)(*given)
        found = caught(getattr(hall, deed), *given)
        self.assertEqual(found, wanted, (deed, given))
        if wanted[0] is None:
            self.assertIs(type(found[1]), list)
        return wanted


class Year(HallTest):
    def test_hundreds_of_deeds(self):
        chance = Random(291)
        for reckoning in kinds_of_reckonings():
            many = 150 if isinstance(reckoning, Tongues) else 300
            places = ["p", "q"] if isinstance(reckoning, Tongues) else ["q", "p", "r"]
            hall, plain = Hall(reckoning, places), Plain(reckoning, places)
            kinds, news = {}, 0
            for name in NAMES[:2]:
                self.assert_done(hall, plain, "watcher", [name])
                for watch in WATCHES[:4]:
                    self.assert_done(hall, plain, "watch", [name, watch])
            for at in range(many):
                deed, given = drawn_deed(chance, plain)
                wanted = self.assert_done(hall, plain, deed, given)
                kinds[deed, wanted[0]] = True
                news += wanted[0] is None and len(wanted[1]) > 0
                if at % 5 == 0 or wanted[0] is not None and at % 2 == 0:
                    self.assert_like(hall, plain)
            self.assertGreater(len(kinds), 6)
            self.assertGreater(news, 8)
            while plain.past:
                self.assert_done(hall, plain, "undo", [])
                if len(plain.past) % 10 == 0:
                    self.assert_like(hall, plain)
            self.assert_done(hall, plain, "undo", [])
            self.assertEqual(hall.watchers().names(), [])


class Deeds(HallTest):
    def setUp(self):
        self.hall = Hall(widths(9), ["q", "p"])
        self.hall.watcher("ann")

    def test_news(self):
        hall = self.hall
        self.assertEqual(hall.watcher("b"), [])
        self.assertEqual(hall.road("q", "x", "p", 3), [])
        self.assertEqual(hall.watch("ann", "xx"), [])
        self.assertEqual(hall.watch("ann", "x"), [])
        self.assertEqual(hall.watch("b", "yx"), [])
        self.assertEqual(hall.road("p", "x", "q", 5), [
            ("x", 1, 0, 0, 5), ("xx", 0, 0, 0, 3), ("xx", 1, 1, 0, 3),
        ])
        self.assertEqual(hall.road("q", "x", "p", 5), [("x", 0, 1, 3, 5), ("xx", 0, 0, 3, 5), ("xx", 1, 1, 3, 5)])
        self.assertEqual(hall.road("p", "y", "p", 2), [("yx", 1, 0, 0, 2)])
        self.assertEqual(hall.road("q", "x", "p", 0), [("x", 0, 1, 5, 0), ("xx", 0, 0, 5, 0), ("xx", 1, 1, 5, 0)])
        self.assertEqual(hall.undo(), [("x", 0, 1, 0, 5), ("xx", 0, 0, 0, 5), ("xx", 1, 1, 0, 5)])
        self.assertEqual(hall.seen("ann", "xx"), ((5, 0), (0, 5)))
        self.assertEqual(hall.seen("b", "yx"), ((0, 0), (2, 0)))

    def test_order_of_watches(self):
        for watch in ("zzz", "zz", "yz", "z", "zx", "zyy"):
            self.hall.watch("ann", watch)
        self.hall.road("p", "y", "p", 4)
        self.hall.road("p", "x", "p", 4)
        self.assertEqual([news[:3] for news in self.hall.road("p", "z", "p", 1)], [
            (watch, 1, 1) for watch in ("z", "yz", "zx", "zz", "zyy", "zzz")
        ])

    def test_seen_for_the_first_time_is_no_news(self):
        hall = self.hall
        hall.road("q", "x", "p", 3)
        self.assertEqual(hall.watch("ann", "x"), [])
        self.assertEqual(hall.unwatch("ann", "x"), [])
        self.assertEqual(hall.undo(), [])
        self.assertEqual(hall.undo(), [])
        self.assertEqual(hall.undo(), [])
        self.assertEqual(hall.watch("ann", "x"), [])
        self.assertEqual(hall.seen("ann", "x"), ((0, 0), (0, 0)))

    def test_what_two_watch_is_told_once(self):
        hall = self.hall
        hall.watcher("b")
        hall.watch("ann", "x")
        hall.watch("b", "x")
        self.assertEqual(hall.road("q", "x", "q", 1), [("x", 0, 0, 0, 1)])
        hall.unwatch("ann", "x")
        self.assertEqual(hall.road("q", "x", "q", 2), [("x", 0, 0, 1, 2)])
        hall.unwatch("b", "x")
        self.assertEqual(hall.road("q", "x", "q", 3), [])

    def test_deeds_that_change_nothing_are_undone_as_such(self):
        hall = self.hall
        hall.watch("ann", "x")
        hall.road("q", "x", "q", 4)
        self.assertEqual(hall.road("q", "x", "q", 4), [])
        self.assertEqual(hall.road("p", "x", "q", 0), [])
        self.assertEqual(hall.undo(), [])
        self.assertEqual(hall.undo(), [])
        self.assertEqual(hall.seen("ann", "x"), ((4, 0), (0, 0)))
        self.assertEqual(hall.undo(), [("x", 0, 0, 4, 0)])
        self.assertEqual(hall.undo(), [])
        self.assertEqual(hall.undo(), [])
        self.assertEqual(caught(hall.undo), (NothingDone, None))
        self.assertEqual(caught(hall.undo), (NothingDone, None))

    def test_integers_for_numbers(self):
        hall = Hall(Numbers(), ("a", "b"))
        hall.watcher("ann")
        hall.watch("ann", "x")
        found = hall.road("a", "x", "b", 3)
        self.assertEqual(found, [("x", 0, 1, 0, 3)])
        self.assertEqual([type(found[0][3]), type(found[0][4])], [Ratio, Ratio])
        self.assertEqual(hall.road("a", "x", "b", Ratio(6, 2)), [])
        self.assertEqual(hall.road("a", "x", "b", 0), [("x", 0, 1, 3, 0)])
        self.assertEqual(hall.road("a", "x", "b", Ratio(1, 3)), [("x", 0, 1, 0, Ratio(1, 3))])
        self.assertEqual(hall.road("a", "x", "b", Ratio(0)), [("x", 0, 1, Ratio(1, 3), 0)])
        self.assertEqual(caught(hall.road, "a", "x", "b", True), (BadWorth, True))

    def test_no_way_strikes_a_road_of_lengths(self):
        hall = Hall(Lengths(), ["a"])
        hall.watcher("ann")
        hall.watch("ann", "xx")
        self.assertEqual(hall.road("a", "x", "a", 0), [("xx", 0, 0, None, 0)])
        self.assertEqual(hall.road("a", "x", "a", 7), [("xx", 0, 0, 0, 14)])
        self.assertEqual(hall.road("a", "x", "a", None), [("xx", 0, 0, 14, None)])
        self.assertEqual(hall.seen("ann", "xx"), ((None,),))

    def test_answers_are_new(self):
        hall = self.hall
        hall.watch("ann", "x")
        hall.road("q", "x", "q", 4).clear()
        hall.undo().clear()
        self.assertEqual(hall.road("q", "x", "q", 4), [("x", 0, 0, 0, 4)])
        hall.watchers().names().clear()
        before = hall.watchers()
        hall.watcher("b")
        hall.unwatch("ann", "x")
        self.assertEqual((before.names(), before.sees(["ann"])), (["ann"], ["x"]))
        self.assertEqual((hall.watchers().names(), hall.watchers().sees(["ann"])), (["ann", "b"], []))


class Errors(HallTest):
    def setUp(self):
        self.plain = Plain(widths(9), ["q", "p"])
        self.hall = Hall(widths(9), ["q", "p"])
        for deed, given in (("watcher", ["ann"]), ("watch", ["ann", "x"]), ("road", ["q", "x", "p", 4]), ("watcher", ["b"])):
            self.assert_done(self.hall, self.plain, deed, given)

    def assert_refused(self, wanted, deed, *given):
        """The error is the wanted one, by what it says and what it keeps, and nothing is changed."""
        found = caught(getattr(self.hall, deed), *given)
        self.assertIs(found[0], wanted[0], (deed, given))
        if wanted[0] is TooMany:
            self.assertIsNone(found[1])
        else:
            self.assertIs(found[1], wanted[1])
        self.assert_like(self.hall, self.plain)

    def test_making(self):
        for thing in strange_things():
            if not isinstance(thing, (Reckoning, Lengths, Numbers, Tongues)):
                for places in (["a"], None):
                    kind, value = caught(Hall, thing, places)
                    self.assertIs(kind, BadReckoning)
                    self.assertIs(value, thing)
        letters = "abcdefghijk"
        for reckoning in kinds_of_reckonings():
            for places in (None, "a", [], (), list(letters), tuple(letters), {"a": 1}, 1):
                self.assertEqual(caught(Hall, reckoning, places), (BadWeb, ("places", -1)))
            for thing in strange_things() + ["a" * 9, "b", "c"]:
                if thing == "a":
                    continue
                for at in range(2, 4):
                    places = ["b", "c"][:at] + [thing] + ["d"]
                    self.assertEqual(caught(Hall, reckoning, places), (BadWeb, ("places", 2)))
            self.assertEqual(Hall(reckoning, tuple(letters[:10])).all_places(), tuple(letters[:10]))
            places = ["b", "a"]
            hall = Hall(reckoning, places)
            places.append("c")
            self.assertEqual(hall.all_places(), ("b", "a"))

    def test_road(self):
        for thing in strange_things() + ["r", "Q", "qq"]:
            self.assert_refused((BadName, thing), "road", thing, None, None, None)
            self.assert_refused((BadName, thing), "road", "q", "x", thing, None)
            if thing != "a":
                if not (isinstance(thing, str) and thing in ("r", "Q")):
                    self.assert_refused((BadLetter, thing), "road", "q", thing, None, None)
            if not (type(thing) is int and 0 <= thing <= 9):
                self.assert_refused((BadWorth, thing), "road", "q", "x", "q", thing)
        self.assert_refused((BadLetter, "xy"), "road", "q", "xy", "p", 1)
        self.assert_refused((BadLetter, ""), "road", "q", "", "p", 1)

    def test_eighty_and_eighty_one_roads(self):
        letters = "abcdefghijklmnopqrst"
        for reckoning, worth, other in ((widths(9), 1, 2), (Numbers(), 1, Ratio(1, 2)), (Lengths(), 0, 1)):
            hall = Hall(reckoning, ["q", "p"])
            for letter in letters:
                for one in ("q", "p"):
                    for end in ("q", "p"):
                        self.assertEqual(hall.road(one, letter, end, worth), [])
            hall.watcher("ann")
            hall.watch("ann", "za")
            self.assertEqual(caught(hall.road, "q", "z", "q", worth), (TooMany, None))
            self.assertEqual(caught(hall.road, "q", "z", "q", "no"), (BadWorth, "no"))
            self.assertEqual(hall.seen("ann", "za"), ((reckoning.none,) * 2,) * 2)
            # What is there already may change, and what is not there may be struck.
            self.assertEqual(hall.road("q", "a", "q", other), [])
            self.assertEqual(hall.road("q", "z", "q", reckoning.none), [])
            self.assertEqual(caught(hall.road, "q", "z", "q", worth), (TooMany, None))
            self.assertEqual(hall.road("q", "a", "q", reckoning.none), [])
            self.assertEqual(len(hall.road("q", "z", "q", worth)), 1)
            self.assertEqual(caught(hall.road, "q", "a", "q", worth), (TooMany, None))
            for _ in range(86):
                hall.undo()
            self.assertEqual(caught(hall.undo), (NothingDone, None))

    def test_watcher(self):
        for thing in strange_things() + ["ann", "b", "a" * 9, "Ann", "an n", ""]:
            if thing == "a":
                continue
            self.assert_refused((BadName, thing), "watcher", thing)
        for name in NAMES[2:8]:
            self.assert_done(self.hall, self.plain, "watcher", [name])
        self.assert_refused((TooMany, None), "watcher", "i")
        self.assert_refused((BadName, "hugo"), "watcher", "hugo")
        self.assert_refused((BadName, "?"), "watcher", "?")
        self.assert_done(self.hall, self.plain, "undo", [])
        self.assert_done(self.hall, self.plain, "watcher", ["i"])

    def test_watch(self):
        for thing in strange_things() + ["c", "Ann"]:
            for deed in ("watch", "unwatch", "seen"):
                self.assert_refused((BadName, thing), deed, thing, None)
                self.assert_refused((BadName, thing), deed, thing, "x")
        for thing in strange_things() + ["x", "x" * 13, "X"]:
            if thing != "a":
                self.assert_refused((BadWatch, thing), "watch", "ann", thing)
            if thing != "x":
                self.assert_refused((BadWatch, thing), "unwatch", "ann", thing)
                self.assert_refused((BadWatch, thing), "seen", "ann", thing)
            self.assert_refused((BadWatch, thing), "unwatch", "b", thing)
            self.assert_refused((BadWatch, thing), "seen", "b", thing)
        self.assert_done(self.hall, self.plain, "watch", ["b", "x"])

    def test_twelve_and_thirteen_watches(self):
        for size in range(2, 13):
            self.assert_done(self.hall, self.plain, "watch", ["ann", "x" * size])
        self.assert_refused((TooMany, None), "watch", "ann", "y")
        self.assert_refused((BadWatch, "x" * 12), "watch", "ann", "x" * 12)
        self.assert_refused((BadWatch, "Y"), "watch", "ann", "Y")
        self.assert_done(self.hall, self.plain, "watch", ["b", "y"])
        self.assert_done(self.hall, self.plain, "unwatch", ["ann", "xxx"])
        self.assert_done(self.hall, self.plain, "watch", ["ann", "y"])
        self.assert_refused((TooMany, None), "watch", "ann", "xxx")
        self.assert_like(self.hall, self.plain)

    def test_too_many_states_in_the_news(self):
        ring, other = again(tongue_of("0", ["0" * 12])), again(tongue_of("0", ["0" * 11]))
        longer, further = tongue_of("0", ["0" * 12]), tongue_of("0", ["0" * 7])
        reckoning = Tongues("0")
        great = again(reckoning.times(longer, further))
        hall, plain = Hall(reckoning, ["a", "b"]), Plain(reckoning, ["a", "b"])
        self.assertEqual(caught(reckoning.times, great, ring)[0], None)
        self.assertEqual(caught(reckoning.times, great, again(tongue_of("0", ["0" * 12, "0"])))[0], None)
        self.assertEqual(caught(reckoning.join, great, reckoning.join(ring, other)), (TooMany, None))
        for deed, given in (("watcher", ["ann"]), ("watch", ["ann", "x"]), ("watch", ["ann", "xy"]), ("road", ["a", "x", "a", great]),
                            ("road", ["a", "x", "b", reckoning.join(ring, other)]), ("road", ["a", "y", "b", reckoning.one])):
            self.assert_done(hall, plain, deed, given)
        # By the new road and by that from a to b one would come to b in the tongues of both.
        for _ in range(2):
            self.assertEqual(caught(hall.road, "b", "y", "b", reckoning.one), (TooMany, None))
            self.assert_like(hall, plain)
        self.assert_done(hall, plain, "unwatch", ["ann", "xy"])
        self.assert_done(hall, plain, "road", ["b", "y", "b", reckoning.one])
        self.assertEqual(hall.watch("ann", "xy"), [])
        self.assertEqual(caught(hall.seen, "ann", "xy"), (TooMany, None))
        self.assertEqual(caught(hall.road, "b", "y", "b", reckoning.none), (TooMany, None))
        self.assertEqual(caught(hall.seen, "ann", "xy"), (TooMany, None))
        self.assertEqual(hall.undo(), [])
        self.assert_like(hall, plain)
        while plain.past:
            self.assert_done(hall, plain, "undo", [])
        self.assertEqual(caught(hall.undo), (NothingDone, None))

    def test_cells_that_do_not_change_are_not_told(self):
        ring, other = again(tongue_of("0", ["0" * 12])), again(tongue_of("0", ["0" * 11]))
        reckoning = Tongues("0")
        both = reckoning.join(ring, other)
        great = again(reckoning.times(tongue_of("0", ["0" * 12]), tongue_of("0", ["0" * 7])))
        hall = Hall(reckoning, ["a", "b", "c"])
        hall.watcher("ann")
        for road in (("a", "x", "a", great), ("a", "x", "b", both), ("a", "y", "c", reckoning.one), ("b", "y", "c", reckoning.one)):
            hall.road(*road)
        hall.watch("ann", "xy")
        self.assertEqual(caught(hall.seen, "ann", "xy"), (TooMany, None))
        self.assertEqual(hall.road("b", "x", "a", both), [("xy", 1, 2, reckoning.none, both)])
        self.assertEqual(hall.undo(), [("xy", 1, 2, both, reckoning.none)])


class WorkOut(HallTest):
    def test_against_the_table_of_the_web(self):
        chance = Random(301)
        kinds = {}
        for reckoning in kinds_of_reckonings():
            for watches, word, _ in TOLD_WORDS:
                if isinstance(reckoning, Tongues) and len(word) > 5:
                    continue
                hall, plain = Hall(reckoning, ["b", "a"]), Plain(reckoning, ["b", "a"])
                for at in range(3):
                    self.assert_done(hall, plain, "watcher", [NAMES[at]])
                for watch in watches:
                    self.assert_done(hall, plain, "watch", [chance.choice(NAMES[:3]), watch])
                for letter in sorted(set(word)):
                    for one in "ab":
                        for other in "ab":
                            plain.road(one, letter, other, random_worth(chance, reckoning))
                for ends, worth in plain.roads.items():
                    hall.road(*ends, worth)
                for lot in sub_lots(NAMES[:3]):
                    seen = sorted({watch for name in lot for watch in plain.watches[name]}, key=order_of_words)
                    given = chance.choice([list, tuple])(chance.sample(lot, len(lot)))
                    found = caught(hall.work_out, given, word)
                    kinds[found[0]] = True
                    if reaches(seen, word):
                        self.assertEqual(found, (None, worked_table(plain.web(), word)))
                    else:
                        self.assertEqual(found, (NotTold, cut(Book(seen), word)))
        self.assertEqual(set(kinds), {None, NotTold})

    def test_tables_that_are_too_great_on_the_way(self):
        # What comes out has few states, though a watched table has more than 200.
        ring, other = again(tongue_of("0", ["0" * 12])), again(tongue_of("0", ["0" * 11]))
        reckoning = Tongues("0")
        great = again(reckoning.times(tongue_of("0", ["0" * 12]), tongue_of("0", ["0" * 7])))
        hall = Hall(reckoning, ["a", "b", "c"])
        hall.watcher("ann")
        roads = [("a", "x", "a", great), ("a", "x", "b", reckoning.join(ring, other)), ("a", "y", "c", reckoning.one)]
        roads += [("b", "y", "c", reckoning.one), ("b", "z", "b", reckoning.one)]
        for road in roads:
            hall.road(*road)
        hall.watch("ann", "xy")
        hall.watch("ann", "z")
        self.assertEqual(caught(hall.seen, "ann", "xy"), (TooMany, None))
        self.assertEqual(hall.work_out(["ann"], "xyz"), Web(reckoning, ["a", "b", "c"], roads).table("xyz"))
        self.assertEqual(caught(hall.work_out, ["ann"], "xy"), (TooMany, None))

    def test_errors(self):
        hall = Hall(yes_no(), ["a"])
        for name in ("ann", "b", "c"):
            hall.watcher(name)
        for at in range(12):
            hall.watch("ann", "a" * (at + 1))
        hall.watch("b", "b")
        hall.watch("c", "a")
        for names in strange_things() + [["ann", "ann"], ["d"], ["ann", None], "ann", {"ann": 1}, ("b", "b"), [["b"]]]:
            if names in ([], ()):
                continue
            for word in ("a", None, "z"):
                kind, value = caught(hall.work_out, names, word)
                self.assertIs(kind, BadNames)
                self.assertIs(value, names)
        for word in strange_things() + ["a" * 41]:
            if word == "a":
                continue
            for names in ([], ["ann"], ("ann", "b"), ["ann", "b", "c"]):
                kind, value = caught(hall.work_out, names, word)
                self.assertIs(kind, BadWord)
                self.assertIs(value, word)
        for names in (["ann", "b"], ("b", "c", "ann")):
            for word in ("a", "zz", "ab"):
                self.assertEqual(caught(hall.work_out, names, word), (TooMany, None))
        # Twelve watches that two of them see.
        self.assertEqual(hall.work_out(["ann", "c"], "a" * 40), ((0,),))
        self.assertEqual(caught(hall.work_out, ["ann", "c"], "ab"), (NotTold, (0, 1)))
        self.assertEqual(caught(hall.work_out, [], "ab"), (NotTold, (0,)))
        self.assertEqual(caught(hall.work_out, ("b",), "abb"), (NotTold, (0,)))


class Odd(Exception):
    """An error that is none of the package."""


class Trying(HallTest):
    def setUp(self):
        self.plain = Plain(told(lot_tables(FIRST_STAYS, 0)), ["q", "p"])
        self.hall = Hall(told(lot_tables(FIRST_STAYS, 0)), ["q", "p"])
        for deed, given in (("watcher", ["ann"]), ("watch", ["ann", "x"]), ("road", ["q", "x", "p", 2]), ("watch", ["ann", "xy"]),
                            ("road", ["p", "y", "q", 5]), ("watcher", ["b"]), ("unwatch", ["ann", "x"]), ("watch", ["b", "x"])):
            self.assert_done(self.hall, self.plain, deed, given)

    def assert_all_undone(self):
        self.assert_like(self.hall, self.plain)
        while self.plain.past:
            self.assert_done(self.hall, self.plain, "undo", [])
            self.assert_like(self.hall, self.plain)
        self.assertEqual(caught(self.hall.undo), (NothingDone, None))

    def test_what_is_returned(self):
        thing = [object()]
        self.assertIs(self.hall.trying(lambda hall: thing), thing)
        self.assertIsNone(self.hall.trying(lambda hall: None))
        self.assertIs(self.hall.trying(lambda hall: hall), self.hall)
        self.assertEqual(self.hall.trying(lambda hall: hall.road("q", "x", "p", 4)), [("x", 0, 1, 2, 4), ("xy", 0, 0, 2, 4)])
        self.assert_all_undone()

    def test_deeds_within(self):
        def deed(hall):
            hall.road("q", "x", "p", 4)
            hall.road("q", "x", "q", 1)
            hall.watcher("c")
            hall.watch("c", "yx")
            hall.unwatch("b", "x")
            hall.undo()
            hall.unwatch("ann", "xy")
            return hall.seen("b", "x"), hall.watchers().names(), caught(hall.seen, "ann", "xy")

        for _ in range(2):
            self.assertEqual(self.hall.trying(deed), (((1, 4), (0, 0)), ["ann", "b", "c"], (BadWatch, "xy")))
            self.assert_like(self.hall, self.plain)
        self.assert_all_undone()

    def test_undo_of_deeds_ahead(self):
        def undo_all(hall):
            for _ in range(8):
                hall.undo()
            hall.watcher("z")
            hall.road("p", "x", "p", 3)
            return caught(hall.work_out, ["z"], "x"), hall.undo(), hall.undo(), caught(hall.undo)

        wanted = ((NotTold, (0,)), [], [], (NothingDone, None))
        self.assertEqual(self.hall.trying(undo_all), wanted)
        self.assert_like(self.hall, self.plain)
        self.assertEqual(self.hall.trying(lambda hall: [hall.undo() for _ in range(3)]), [[], [], []])
        self.assert_all_undone()

    def test_tries_within_tries(self):
        def inner(hall):
            hall.road("q", "x", "p", 7)
            hall.undo()
            hall.undo()
            hall.undo()
            hall.watch("b", "yy")
            raise Odd("inner")

        def outer(hall):
            hall.road("q", "x", "p", 1)
            hall.watch("b", "xx")
            seen = (hall.seen("b", "x"), hall.watchers().sees(["b"]))
            for _ in range(2):
                with self.assertRaises(Odd):
                    hall.trying(inner)
                self.assertEqual((hall.seen("b", "x"), hall.watchers().sees(["b"])), seen)
            self.assertEqual(hall.trying(lambda hall: hall.trying(lambda hall: hall.undo())), [])
            self.assertEqual(hall.undo(), [])
            self.assertEqual(hall.undo(), [("x", 0, 1, 1, 2), ("xy", 0, 0, 5, 2)])
            return "done"

        self.assertEqual(self.hall.trying(outer), "done")
        self.assert_all_undone()

    def test_errors_are_passed_on(self):
        for error in (Odd("odd"), KeyError("x"), ZeroDivisionError(), ValueError("v"), BadName("n"), TooMany(), StopIteration(),
                      KeyboardInterrupt(), RecursionError(), AttributeError("a"), NothingDone()):
            def deed(hall, error=error):
                hall.road("q", "x", "p", 4)
                hall.undo()
                hall.undo()
                hall.watcher("c")
                raise error

            with self.assertRaises(error.__class__) as held:
                self.hall.trying(deed)
            self.assertIs(held.exception, error)
            self.assertIsNone(error.__cause__)
            self.assert_like(self.hall, self.plain)
        self.assertEqual(caught(self.hall.trying, lambda hall: hall.watcher("ann")), (BadName, "ann"))
        self.assertEqual(caught(self.hall.trying, lambda hall: [hall.undo() for _ in range(9)]), (NothingDone, None))
        with self.assertRaises(TypeError):
            self.hall.trying(None)
        self.assert_all_undone()

    def test_deeds_behind_a_try(self):
        self.hall.trying(lambda hall: hall.road("q", "x", "p", 4))
        self.assert_done(self.hall, self.plain, "road", ["q", "x", "q", 1])
        self.hall.trying(lambda hall: (hall.undo(), hall.undo(), hall.watcher("c")))
        self.assert_done(self.hall, self.plain, "watcher", ["c"])
        self.assert_done(self.hall, self.plain, "undo", [])
        self.assert_done(self.hall, self.plain, "road", ["q", "x", "p", 6])
        self.assert_all_undone()

    def test_a_hall_within_another(self):
        other = Hall(told(chain_tables(3)), ["a"])
        other.watcher("z")

        def deed(hall):
            other.watcher("y")
            hall.watcher("c")
            return other.watchers().names(), hall.watchers().names()

        self.assertEqual(self.hall.trying(deed), (["y", "z"], ["ann", "b", "c"]))
        self.assertEqual(other.watchers().names(), ["y", "z"])
        self.assert_all_undone()


if __name__ == "__main__":
    unittest.main()
