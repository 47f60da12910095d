import unittest
from itertools import product
from random import Random

from tests.support import (
    NAMES, caught, chain_tables, joining_reckonings, kinds_of_reckonings, lot_tables, random_web, random_worth,
    strange_things, told, THREE_TURNS,
)
from watchedways.errors import BadLetter, BadName, BadReckoning, BadWeb
from watchedways.lengths import Lengths
from watchedways.making import widths, yes_no
from watchedways.numbers import Numbers
from watchedways.ratios import Ratio
from watchedways.reckonings import Reckoning
from watchedways.speaking import Tongues
from watchedways.tongues import Tongue, tongue_of
from watchedways.webs import Web

TEN = ["a", "b", "c", "d", "e", "f", "g", "h", "i", "j"]
PLACES = ["a", "bb", "c"]
ROADS = [("a", "x", "bb", 1), ("bb", "x", "c", 2), ("a", "y", "bb", 1), ("c", "x", "c", 3), ("c", "x", "a", 3)]


def is_reckoning(thing):
    return isinstance(thing, (Reckoning, Lengths, Numbers, Tongues))


def is_name(thing):
    return type(thing) is str and 1 <= len(thing) <= 8 and all("a" <= sign <= "z" for sign in thing)


class Making(unittest.TestCase):
    def test_attributes(self):
        for places in (PLACES, tuple(PLACES)):
            for roads in (ROADS, tuple(ROADS)):
                web = Web(widths(4), places, roads)
                self.assertEqual(web.reckoning, widths(4))
                self.assertEqual((web.places, web.roads), (tuple(PLACES), tuple(ROADS)))
                self.assertIs(type(web.places), tuple)
                self.assertIs(type(web.roads), tuple)

    def test_every_kind_of_reckoning(self):
        chance = Random(31)
        for reckoning in kinds_of_reckonings():
            web = random_web(chance, reckoning, 4, "xy", 12)
            self.assertEqual(Web(reckoning, web.places, web.roads), web)
            self.assertTrue(web.roads)
            self.assertEqual(Web(reckoning, ["a"], []).roads, ())

    def test_rows_changed_behind_it(self):
        places, roads = list(PLACES), list(ROADS)
        web = Web(widths(4), places, roads)
        table = web.table("xx")
        places[0] = "z"
        places.append("zz")
        roads[0] = None
        roads.clear()
        self.assertEqual((web.places, web.roads, web.table("xx")), (tuple(PLACES), tuple(ROADS), table))
        self.assertEqual(web.worth("a", "x", "bb"), 1)
        self.assertIs(web == Web(widths(4), PLACES, ROADS), True)

    def test_arguments_stay(self):
        places, roads = list(PLACES), [("a", "x", "bb", 1), ("bb", "x", "a", Ratio(1, 2))]
        Web(Numbers(), places, roads)
        self.assertEqual((places, roads[0], type(roads[0][3])), (PLACES, ("a", "x", "bb", 1), int))

    def test_integers_become_ratios(self):
        web = Web(Numbers(), PLACES, [("a", "x", "bb", 3), ("bb", "x", "c", Ratio(-1, 2)), ("c", "x", "c", -7)])
        self.assertEqual([type(road[3]) for road in web.roads], [Ratio, Ratio, Ratio])
        self.assertEqual([(road[3].top, road[3].bottom) for road in web.roads], [(3, 1), (-1, 2), (-7, 1)])
        self.assertEqual([road[:3] for road in web.roads], [("a", "x", "bb"), ("bb", "x", "c"), ("c", "x", "c")])
        self.assertIs(type(web.worth("a", "x", "bb")), Ratio)
        self.assertIs(type(web.worth("a", "y", "bb")), Ratio)

    def test_most(self):
        ends = [(one, "x", other, 1) for one, other in product(TEN, repeat=2)]
        self.assertEqual(len(Web(yes_no(), TEN, ends[:80]).roads), 80)
        self.assertEqual(Web(yes_no(), TEN, ends[:80]).places, tuple(TEN))


class Errors(unittest.TestCase):
    def test_reckoning(self):
        for thing in strange_things() + [Numbers, "yes_no", Web(Lengths(), ["a"], [])]:
            if is_reckoning(thing):
                continue
            for given in ((PLACES, ROADS), (None, ROADS), ([], None)):
                kind, value = caught(Web, thing, *given)
                self.assertIs(kind, BadReckoning)
                self.assertIs(value, thing)

    def test_row_of_places(self):
        for reckoning in kinds_of_reckonings():
            for places in strange_things() + [[], (), "ab", "", {"a": 1}, TEN + ["k"], [None] * 11, tuple(TEN + ["a"])]:
                if type(places) in (list, tuple) and 1 <= len(places) <= 10:
                    continue
                self.assertEqual(caught(Web, reckoning, places, []), (BadWeb, ("places", -1)))
                self.assertEqual(caught(Web, reckoning, places, None), (BadWeb, ("places", -1)))

    def test_each_place(self):
        good = ["a", "bb", "abcdefgh", "z"]
        for thing in strange_things() + ["abcdefghi", "", "A", "a1", " a", "a\n", 1]:
            if is_name(thing):
                continue
            for at in range(5):
                places = good[:at] + [thing] + good[at:]
                self.assertEqual(caught(Web, Lengths(), places, []), (BadWeb, ("places", at)))
                self.assertEqual(caught(Web, Lengths(), tuple(places) + (None, "a"), [5]), (BadWeb, ("places", at)))
        for at in range(1, 5):
            for ahead in range(at):
                places = good[:at] + [good[ahead]] + good[at:]
                self.assertEqual(caught(Web, Lengths(), places, []), (BadWeb, ("places", at)))
        self.assertEqual(caught(Web, Lengths(), TEN[:9] + ["a"], []), (BadWeb, ("places", 9)))

    def test_row_of_roads(self):
        ends = [(one, letter, other, 1) for one, letter, other in product(TEN, "xy", TEN)]
        for roads in strange_things() + [ends[:81], tuple(ends), [None] * 81, "x", {ROADS[0]: 1}, {0: ROADS[0]}]:
            if type(roads) in (list, tuple) and len(roads) <= 80:
                continue
            self.assertEqual(caught(Web, yes_no(), TEN, roads), (BadWeb, ("roads", -1)))
        self.assertEqual(caught(Web, yes_no(), TEN, ends[:79] + [5]), (BadWeb, ("roads", 79)))

    def wrong_roads(self):
        wrong = strange_things() + [list(ROADS[0]), ("a", "x", "bb"), ("a", "x", "bb", 1, 1), "axb1", ("a", "x", "bb", "1")]
        for thing in strange_things() + ["d", "bbb", "b", "A"]:
            if thing not in ("a", "b"):
                wrong += [(thing, "z", "a", 1), ("a", "z", thing, 1)]
            if thing != "a":
                wrong.append(("a", thing, "a", 1) if thing not in ("b", "d") else ("a", "xx", "a", 1))
        return wrong

    def test_each_road(self):
        for at in (0, 2, 5):
            for thing in self.wrong_roads():
                roads = ROADS[:at] + [thing] + ROADS[at:]
                self.assertEqual(caught(Web, widths(4), PLACES, roads), (BadWeb, ("roads", at)), thing)
                self.assertEqual(caught(Web, widths(4), PLACES, tuple(roads) + (7,)), (BadWeb, ("roads", at)))

    def test_road_that_stands_twice(self):
        for ahead in range(5):
            for at in range(ahead + 1, 6):
                twice = ROADS[ahead][:3] + (4,)
                for road in (ROADS[ahead], twice):
                    roads = ROADS[:at] + [road] + ROADS[at:]
                    self.assertEqual(caught(Web, widths(4), PLACES, roads), (BadWeb, ("roads", at)))

    def test_roads_that_look_alike(self):
        roads = [("a", "x", "bb", 1), ("bb", "x", "a", 1), ("a", "y", "bb", 1), ("a", "x", "a", 1), ("a", "x", "c", 1)]
        self.assertEqual(Web(widths(4), PLACES, roads).roads, tuple(roads))

    def test_each_worth(self):
        chance = Random(32)
        others = [True, False, None, "1", 1.0, -1, 5, 16, 10 ** 30, Ratio(1, 2), Ratio(0), (1,), [1]]
        others += [tongue_of("01", ["0"]), tongue_of("0", ["0"]), tongue_of("7", [""]), tongue_of("01", [])]
        for reckoning in kinds_of_reckonings():
            good = next(worth for worth in iter(lambda: random_worth(chance, reckoning), ()) if worth != reckoning.none)
            for worth in others + strange_things() + [reckoning.none]:
                for at in (0, 1, 2):
                    roads = [("a", "x", "bb", good), ("bb", "x", "c", good)]
                    roads.insert(at, ("c", "y", "c", worth))
                    right = reckoning.is_worth(worth) and worth != reckoning.none
                    wanted = None if right else BadWeb
                    kind, value = caught(Web, reckoning, PLACES, roads)
                    self.assertIs(kind, wanted)
                    if not right:
                        self.assertEqual(value, ("roads", at))
        for none in (0, Ratio(0), Ratio(0, 7)):
            self.assertEqual(caught(Web, Numbers(), ["a"], [("a", "x", "a", none)]), (BadWeb, ("roads", 0)))
        self.assertEqual(caught(Web, Lengths(), ["a"], [("a", "x", "a", None)]), (BadWeb, ("roads", 0)))
        self.assertEqual(Web(Lengths(), ["a"], [("a", "x", "a", 0)]).worth("a", "x", "a"), 0)

    def test_other_tongues(self):
        for signs in ("0", "1", "02", "012"):
            roads = [("a", "x", "a", tongue_of(signs, ["0"] if "0" in signs else [""]))]
            self.assertEqual(caught(Web, Tongues("01"), ["a"], roads), (BadWeb, ("roads", 0)))
        every = Tongue("01", [[1, 1], [0, 0]], [0, 1])
        self.assertEqual(Web(Tongues("01"), ["a"], [("a", "x", "a", every)]).roads[0][3], every)


class Equality(unittest.TestCase):
    def test_roads_in_another_order(self):
        chance = Random(33)
        for reckoning in kinds_of_reckonings():
            web = random_web(chance, reckoning, 4, "xyz", 15)
            for _ in range(5):
                other = Web(reckoning, web.places, chance.sample(web.roads, len(web.roads)))
                self.assertIs(web == other, True)
                self.assertIs(web != other, False)
            self.assertIs(web == Web(reckoning, web.places, web.roads[1:]), False)
            self.assertIs(web == Web(reckoning, web.places[::-1], web.roads), False)
            self.assertIs(web == Web(reckoning, web.places + ("k",), web.roads), False)

    def test_one_road_otherwise(self):
        web = Web(widths(4), PLACES, ROADS)
        for at, road in enumerate(ROADS):
            for changed in (road[:3] + (4,), ("bb", "z", "bb", road[3])):
                self.assertIs(web == Web(widths(4), PLACES, ROADS[:at] + [changed] + ROADS[at + 1:]), False)
        self.assertIs(web == Web(widths(4), PLACES, ROADS + [("bb", "z", "bb", 1)]), False)

    def test_another_reckoning(self):
        webs = [Web(reckoning, ["a"], []) for reckoning in kinds_of_reckonings()]
        for one, other in product(range(len(webs)), repeat=2):
            self.assertIs(webs[one] == webs[other], one == other)
        self.assertIs(Web(widths(4), PLACES, ROADS) == Web(widths(5), PLACES, ROADS), False)
        self.assertIs(Web(widths(4), PLACES, ROADS) == Web(Lengths(), PLACES, ROADS), False)
        self.assertIs(Web(Numbers(), PLACES, ROADS) == Web(Lengths(), PLACES, ROADS), False)
        self.assertIs(Web(told(chain_tables(5)), PLACES, ROADS) == Web(widths(4), PLACES, ROADS), True)

    def test_integers_and_ratios(self):
        ratios = [road[:3] + (Ratio(2 * road[3], 2),) for road in ROADS]
        self.assertIs(Web(Numbers(), PLACES, ROADS) == Web(Numbers(), PLACES, ratios), True)

    def test_tongues(self):
        one = Web(Tongues("01"), ["a"], [("a", "x", "a", Tongue("01", [[0, 0]], [0]))])
        other = Web(Tongues("01"), ["a"], [("a", "x", "a", Tongue("01", [[1, 1], [0, 0]], [0, 1]))])
        self.assertIs(one == other, True)
        other = Web(Tongues("01"), ["a"], [("a", "x", "a", Tongue("01", [[1, 1], [0, 0]], [0]))])
        self.assertIs(one == other, False)

    def test_nothing_else(self):
        web = Web(Lengths(), ["a"], [])
        for thing in [None, 0, True, "a", [], (), {}, ("a",), (Lengths(), ("a",), ()), Lengths(), object(), Web]:
            self.assertIs(web == thing, False)
            self.assertIs(thing == web, False)


class Worths(unittest.TestCase):
    def test_every_road(self):
        chance = Random(34)
        for reckoning in kinds_of_reckonings():
            web = random_web(chance, reckoning, 4, "xy", 14)
            roads = {road[:3]: road[3] for road in web.roads}
            for one, letter, other in product(NAMES[:4], "xyz", NAMES[:4]):
                worth = web.worth(one, letter, other)
                self.assertEqual(worth, roads.get((one, letter, other), reckoning.none))
                self.assertTrue(reckoning.is_worth(worth))

    def test_errors(self):
        web = Web(widths(4), PLACES, ROADS)
        for thing in strange_things() + ["d", "b", "bbb", "A", "abcdefghi"]:
            if thing != "a":
                for given in ((thing, "x", "bb"), (thing, "xx", "bb"), (thing, None, thing)):
                    kind, value = caught(web.worth, *given)
                    self.assertIs(kind, BadName)
                    self.assertIs(value, thing)
                kind, value = caught(web.worth, "a", "x", thing)
                self.assertIs(kind, BadName)
                self.assertIs(value, thing)
            if not (is_name(thing) and len(thing) == 1):
                for given in (("a", thing, "bb"), ("a", thing, "d"), ("bb", thing, None)):
                    kind, value = caught(web.worth, *given)
                    self.assertIs(kind, BadLetter)
                    self.assertIs(value, thing)

    def test_joining_ones(self):
        self.assertEqual(len(joining_reckonings()) + 1, len(kinds_of_reckonings()))
        turns = told(lot_tables(THREE_TURNS, 0))
        self.assertEqual(Web(turns, ["a"], [("a", "x", "a", 7)]).worth("a", "x", "a"), 7)


if __name__ == "__main__":
    unittest.main()
