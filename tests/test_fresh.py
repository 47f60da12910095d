import unittest
from itertools import product
from random import Random

from tests.support import caught, order_of_words, strange_things, words_of
from watchedways.errors import BadKnown, BadWord
from watchedways.fresh import fresh_web, sure_pairs
from watchedways.making import yes_no
from watchedways.webs import Web

PIECES = words_of("ab", 3) + ["c", "abab", "aaaaa"]
SOME_NAMES = ["b", "ab", "a", "abc", "zz"]


def drawn_known(chance, most_watches, most_pairs, names):
    known = {}
    for watch in chance.sample(PIECES, chance.randint(0, most_watches)):
        pairs = [(chance.choice(names), chance.choice(names)) for _ in range(chance.randint(0, most_pairs))]
        known[watch] = chance.choice([list, tuple])(pairs)
    return known


def by_the_words(known):
    """The places and roads as [28] tells them, told in another way: all spots of all ways, one by one."""
    names = sorted({name for pairs in known.values() for pair in pairs for name in pair})
    fresh, roads = [], []
    for watch in sorted(known, key=order_of_words):
        for one, other in known[watch]:
            here = one
            for at in range(len(watch)):
                if at == len(watch) - 1:
                    there = other
                else:
                    fresh.append(f"#{len(fresh) + 1}")
                    there = fresh[-1]
                if (here, watch[at], there) not in roads:
                    roads.append((here, watch[at], there))
                here = there
    return names + fresh, roads


def goes(roads, one, word, other):
    """Whether there is a way of the word."""
    places = {one}
    for letter in word:
        places = {end for start, sign, end in roads if sign == letter and start in places}
    return other in places


class FreshWeb(unittest.TestCase):
    def test_ordinary(self):
        self.assertEqual(fresh_web({"ab": [("x", "y")]}), (["x", "y", "#1"], [("x", "a", "#1"), ("#1", "b", "y")]))
        self.assertEqual(fresh_web({"abc": [("y", "x")], "b": (("x", "x"),)}), (
            ["x", "y", "#1", "#2"], [("x", "b", "x"), ("y", "a", "#1"), ("#1", "b", "#2"), ("#2", "c", "x")],
        ))

    def test_pairs_twice(self):
        self.assertEqual(fresh_web({"a": [("x", "y"), ("y", "x"), ("x", "y")]}), (
            ["x", "y"], [("x", "a", "y"), ("y", "a", "x")],
        ))
        self.assertEqual(fresh_web({"ab": [("x", "y"), ("x", "y")]}), (
            ["x", "y", "#1", "#2"],
            [("x", "a", "#1"), ("#1", "b", "y"), ("x", "a", "#2"), ("#2", "b", "y")],
        ))

    def test_order_of_watches_and_names(self):
        known = {"bb": [("b", "ab")], "aaa": [("c", "c")], "c": [("ba", "b")], "ab": (("a", "b"), ("b", "a"))}
        places, roads = fresh_web(known)
        self.assertEqual(places, ["a", "ab", "b", "ba", "c", "#1", "#2", "#3", "#4", "#5"])
        self.assertEqual(roads, [
            ("ba", "c", "b"), ("a", "a", "#1"), ("#1", "b", "b"), ("b", "a", "#2"), ("#2", "b", "a"),
            ("b", "b", "#3"), ("#3", "b", "ab"), ("c", "a", "#4"), ("#4", "a", "#5"), ("#5", "a", "c"),
        ])
        for keys in (list(known)[::-1], sorted(known)):
            self.assertEqual(fresh_web({key: known[key] for key in keys}), (places, roads))

    def test_against_the_words(self):
        chance = Random(281)
        for _ in range(150):
            known = drawn_known(chance, 5, 4, SOME_NAMES)
            places, roads = fresh_web(known)
            self.assertEqual((places, roads), by_the_words(known))
            self.assertEqual((type(places), type(roads)), (list, list))

    def test_empty_rows(self):
        self.assertEqual(fresh_web({}), ([], []))
        self.assertEqual(fresh_web({"ab": [], "a": ()}), ([], []))
        self.assertEqual(fresh_web({"ab": [], "a": [("z", "z")]}), (["z"], [("z", "a", "z")]))

    def test_bounds(self):
        names = ["".join(name) for name in product("ab", repeat=5)]
        watches = ["a" * 12, "b", "ab", "abc", "b" * 12, "ba", "cab", "c", "cc", "a", "abcabcabcabc", "d" * 11]
        known = {watch: [(names[at], names[-at]) for at in range(12)] for watch in watches}
        places, roads = fresh_web(known)
        self.assertEqual((places, roads), by_the_words(known))
        self.assertEqual(places[-1], f"#{12 * sum(len(watch) - 1 for watch in watches)}")
        self.assertEqual(fresh_web({"a" * 12: [("abcdefgh", "b")]})[0], ["abcdefgh", "b"] + [f"#{at}" for at in range(1, 12)])

    def test_lists_are_new(self):
        known = {"ab": [("x", "y")]}
        for rows in fresh_web(known):
            rows.clear()
        self.assertEqual(len(fresh_web(known)[0]), 3)
        sure_pairs(known, "ab").clear()
        self.assertEqual(sure_pairs(known, "ab"), [("x", "y")])
        self.assertEqual(known, {"ab": [("x", "y")]})


class SurePairs(unittest.TestCase):
    def test_ordinary(self):
        known = {"ab": [("x", "y"), ("y", "x")], "c": [("y", "y")]}
        self.assertEqual(sure_pairs(known, "ab"), [("x", "y"), ("y", "x")])
        self.assertEqual(sure_pairs(known, "abab"), [("x", "x"), ("y", "y")])
        self.assertEqual(sure_pairs(known, "abccab"), [("x", "x")])
        self.assertEqual(sure_pairs(known, "a"), [])
        self.assertEqual(sure_pairs({}, "a"), [])
        self.assertEqual(sure_pairs({"a": [("b", "ab"), ("ab", "b"), ("a", "b")]}, "aa"), [("a", "ab"), ("ab", "ab"), ("b", "b")])

    def test_against_the_fresh_web(self):
        chance = Random(282)
        many = {}
        for _ in range(120):
            known = drawn_known(chance, 4, 4, SOME_NAMES)
            places, roads = fresh_web(known)
            names = [place for place in places if place[0] != "#"]
            for word in chance.sample(words_of("ab", 5), 6) + ["c"]:
                wanted = [(one, other) for one in names for other in names if goes(roads, one, word, other)]
                self.assertEqual(sure_pairs(known, word), wanted)
                many[len(wanted)] = many.get(len(wanted), 0) + 1
        self.assertGreater(len(many), 5)

    def test_against_small_webs(self):
        # All webs with three places and one letter: in each of them what is known may be so or not.
        places = ["x", "y", "z"]
        ends = [(one, other) for one in places for other in places]
        words = ["a", "aa", "aaa", "aaaa"]
        tables = []
        for flags in product((False, True), repeat=len(ends)):
            web = Web(yes_no(), places, [(one, "a", other, 1) for (one, other), flag in zip(ends, flags) if flag])
            ways = {}
            for word in words:
                table = web.table(word)
                ways[word] = {pair for at, pair in enumerate(ends) if table[at // 3][at % 3]}
            tables.append(ways)
        for known in ({"a": [("x", "y"), ("y", "z")]}, {"aa": [("x", "y")], "a": [("y", "x")]}, {"aa": [("x", "x")]},
                      {"aaa": [("x", "x")], "aa": [("x", "z")]}, {"a": [("z", "z")]}, {"aa": [("x", "y"), ("y", "x")]}):
            good = [ways for ways in tables if all(set(known[watch]) <= ways[watch] for watch in known)]
            names = sorted({name for pairs in known.values() for pair in pairs for name in pair})
            for word in words:
                sure = [(one, other) for one in names for other in names if all((one, other) in ways[word] for ways in good)]
                # What is so in every web, however many places it has, is so in all of these.
                self.assertLessEqual(set(sure_pairs(known, word)), set(sure))
                if all(len(watch) < 3 for watch in known) and len(word) < 3:
                    self.assertEqual(sure_pairs(known, word), sure)

    def test_many_places(self):
        names = ["".join(name) for name in product("ab", repeat=4)][:13]
        known = {"a" * 12: list(zip(names, names[1:])), "a" * 11: list(zip(names, names[1:])), "b": [(names[-1], names[0])]}
        self.assertEqual(sure_pairs(known, "a" * 23), list(zip(names, names[2:])))
        self.assertEqual(sure_pairs(known, "a" * 36), list(zip(names, names[3:])))
        self.assertEqual(sure_pairs(known, "a" * 39 + "b"), [])
        self.assertEqual(sure_pairs(known, "a" * 12 + "b" + "a" * 11), [(names[-2], names[1])])


class Errors(unittest.TestCase):
    def calls(self):
        return [fresh_web, lambda known: sure_pairs(known, "a"), lambda known: sure_pairs(known, None)]

    def test_no_dict(self):
        thirteen = {"a" * size: [] for size in range(1, 13)}
        for call in self.calls():
            for thing in strange_things() + [{**thirteen, "b": []}, {**thirteen, None: 1}, [("a", [])]]:
                if not isinstance(thing, dict) or len(thing) > 12:
                    self.assertEqual(caught(call, thing), (BadKnown, -1))
        self.assertEqual(fresh_web(thirteen), ([], []))

    def test_keys(self):
        for call in self.calls():
            for key in (None, True, 0, "", "A", "a" * 13, ("a", "b"), ("a",), 10 ** 30):
                for at in range(3):
                    rest = [("a", [("x", "y")]), ("b", ())]
                    known = dict(rest[:at] + [(key, [])] + rest[at:] + [("c", None)])
                    kind, value = caught(call, known)
                    self.assertEqual((kind, value), (BadKnown, key))
                    self.assertIs(type(value), type(key))

    def test_rows(self):
        pairs = [("x", "y"), ("y", "z")]
        for thing in strange_things() + [("x",), ("x", "y", "z"), ["x", "y"], ("x", ""), ("X", "y"), ("x", "a" * 9), ("x", 1)]:
            for at in range(3):
                for row in (pairs[:at] + [thing] + pairs[at:], tuple(pairs[:at] + [thing] + pairs[at:])):
                    for call in self.calls():
                        self.assertEqual(caught(call, {"c": [], "ab": row, "a": None}), (BadKnown, "ab"))
        for row in strange_things() + [[("x", "y")] * 13, "xy", {("x", "y"): True}, (("x", "y"),) * 13]:
            if type(row) in (list, tuple) and len(row) == 0:
                continue
            for call in self.calls():
                self.assertEqual(caught(call, {"c": [], "ab": row, "A": []}), (BadKnown, "ab"))
        self.assertEqual(fresh_web({"a": [("x", "y")] * 12}), (["x", "y"], [("x", "a", "y")]))

    def test_words(self):
        for word in strange_things() + ["a" * 41]:
            if word == "a":
                continue
            kind, value = caught(sure_pairs, {"a": [("x", "y")]}, word)
            self.assertIs(kind, BadWord)
            self.assertIs(value, word)
        self.assertEqual(sure_pairs({"a": [("x", "x")]}, "a" * 40), [("x", "x")])


if __name__ == "__main__":
    unittest.main()
