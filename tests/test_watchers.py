import unittest
from random import Random

from tests.support import (
    caught, greatest_of, least_of, order_of_words, reaches, strange_things, sub_lots, words_of,
)
from watchedways.errors import BadNames, BadWatchers, BadWord
from watchedways.watchers import Watchers

PIECES = words_of("ab", 3) + ["aaaa", "abab", "c"]
NAMES = ["b", "ab", "a", "abc", "zz", "ba", "z", "aaaaaaaa"]


def drawn_rows(chance, most):
    """Rows of watchers, as lists or tuples."""
    rows = []
    for name in chance.sample(NAMES, chance.randint(0, most)):
        watches = chance.sample(PIECES, chance.randint(0, 3))
        rows.append((name, chance.choice([list, tuple])(watches)))
    return chance.choice([list, tuple])(rows)


def cases(most=4):
    chance = Random(241)
    for _ in range(60):
        rows = drawn_rows(chance, most)
        yield rows, "".join(chance.choice(PIECES[:12]) for _ in range(chance.randint(1, 3)))


def seen_by(rows, names):
    """All watches of these, in order."""
    return sorted({watch for name, watches in rows if name in names for watch in watches}, key=order_of_words)


def lots_that_can(rows, word):
    """All lots of names, in order, and those that tell the word."""
    lots = sub_lots(sorted(name for name, _ in rows))
    return lots, [lot for lot in lots if reaches(seen_by(rows, lot), word)]


class Making(unittest.TestCase):
    def test_bounds(self):
        eight = [(name, ["a"]) for name in "abcdefgh"]
        self.assertEqual(Watchers(eight).names(), list("abcdefgh"))
        self.assertEqual(caught(Watchers, eight + [("i", [])]), (BadWatchers, (-1, -1)))
        self.assertEqual(caught(Watchers, tuple(eight + [None])), (BadWatchers, (-1, -1)))
        twelve = ["a" * size for size in range(1, 13)]
        self.assertEqual(Watchers([("a", twelve)]).sees(["a"]), twelve)
        for given in (twelve + ["b"], tuple(twelve + ["b"]), twelve + [None], twelve + ["a"]):
            self.assertEqual(caught(Watchers, [("b", ["a"]), ("a", given)]), (BadWatchers, (1, -1)))

    def test_no_row(self):
        for thing in strange_things() + ["ab", {"a": ["a"]}, b"a"]:
            if type(thing) not in (list, tuple):
                self.assertEqual(caught(Watchers, thing), (BadWatchers, (-1, -1)))

    def test_each_item(self):
        good = [("a", ["a", "b"]), ("b", ()), ("c", ["abc"])]
        wrong = strange_things() + [
            ("d",), ("d", [], []), ["d", []], ("", []), ("D", []), ("d" * 9, []), (1, []), (None, []), (["d"], []),
            ("d", "ab"), ("d", None), ("d", {"a": 1}), ("d", {}), ("d", ["a"] * 13), (("d",), []), "d", ("d", 1),
        ]
        for thing in wrong:
            for at in range(4):
                rows = good[:at] + [thing] + good[at:]
                for given in (rows, tuple(rows), rows + [None]):
                    self.assertEqual(caught(Watchers, given), (BadWatchers, (at, -1)))
        for at, name in ((1, "a"), (2, "a"), (3, "a"), (2, "b"), (3, "c")):
            rows = good[:at] + [(name, ["z"])] + good[at:]
            self.assertEqual(caught(Watchers, rows), (BadWatchers, (at, -1)))
            rows[at] = (name, ["Z"])
            self.assertEqual(caught(Watchers, rows), (BadWatchers, (at, -1)))

    def test_each_watch(self):
        good = [("a", ["a", "b"]), ("b", ()), ("c", ["abc"])]
        watches = ["a", "ab", "b"]
        for thing in strange_things() + ["a" * 13, "A", "a b", ["a"], ("a",)]:
            for place in range(4):
                row = watches[:place] + [thing] + watches[place:]
                for at in range(4):
                    for given in (row, tuple(row), row + [None, "a"]):
                        rows = good[:at] + [("d", given)] + good[at:]
                        self.assertEqual(caught(Watchers, rows), (BadWatchers, (at, place)))
                        self.assertEqual(caught(Watchers, tuple(rows + [None])), (BadWatchers, (at, place)))
        for place, twice in ((1, "a"), (2, "a"), (3, "a"), (2, "ab"), (3, "b")):
            row = watches[:place] + [twice] + watches[place:]
            self.assertEqual(caught(Watchers, [("d", row), ("d", [])]), (BadWatchers, (0, place)))
        # The same watch may be seen by others, too.
        self.assertEqual(Watchers([("a", ["a"]), ("b", ["a"])]).sees(["a", "b"]), ["a"])

    def test_two_errors_at_once(self):
        self.assertEqual(caught(Watchers, [("a", ["a", "A"]), None]), (BadWatchers, (0, 1)))
        self.assertEqual(caught(Watchers, [None, ("a", ["a", "A"])]), (BadWatchers, (0, -1)))
        self.assertEqual(caught(Watchers, [("a", []), ("a", ["A"])]), (BadWatchers, (1, -1)))
        self.assertEqual(caught(Watchers, [("a", ["a", "a", None])]), (BadWatchers, (0, 1)))
        self.assertEqual(caught(Watchers, [("a", ["a", None, "a"])]), (BadWatchers, (0, 1)))

    def test_rows_may_be_changed_behind_it(self):
        row = ["a", "aa"]
        rows = [("b", row), ("a", ("ab",))]
        watchers = Watchers(rows)
        row[0] = "zz"
        row.append("b")
        rows.append(("c", ["a"]))
        del rows[0]
        self.assertEqual(watchers.names(), ["a", "b"])
        self.assertEqual(watchers.sees(["a", "b"]), ["a", "aa", "ab"])
        watchers.names().clear()
        watchers.sees(["b"]).append("x")
        self.assertEqual(watchers.names(), ["a", "b"])
        self.assertEqual(watchers.sees(["b"]), ["a", "aa"])


class Telling(unittest.TestCase):
    def test_names_as_python_orders_strings(self):
        watchers = Watchers([(name, [name]) for name in ("b", "ab", "a", "zz", "ba", "abc")])
        self.assertEqual(watchers.names(), ["a", "ab", "abc", "b", "ba", "zz"])
        self.assertEqual(watchers.sees(watchers.names()), ["a", "b", "ab", "ba", "zz", "abc"])
        self.assertEqual(watchers.least("aba"), [("a", "ab"), ("a", "b"), ("a", "ba"), ("ab", "b", "ba")])
        self.assertEqual(watchers.unable("aba"), [
            ("a", "abc", "zz"), ("ab", "abc", "b", "zz"), ("ab", "abc", "ba", "zz"), ("abc", "b", "ba", "zz"),
        ])
        self.assertEqual(watchers.guards("aba"), [("a", "ab"), ("a", "b"), ("a", "ba"), ("ab", "b", "ba")])
        self.assertEqual(watchers.guards("abazz"), [("zz",), ("a", "ab"), ("a", "b"), ("a", "ba"), ("ab", "b", "ba")])
        self.assertEqual(watchers.needed("abazz"), ["zz"])

    def test_sees_and_can(self):
        chance = Random(242)
        answers = {True: 0, False: 0}
        for rows, word in cases():
            watchers = Watchers(rows)
            self.assertEqual(watchers.names(), sorted(name for name, _ in rows))
            for lot in sub_lots(watchers.names()):
                given = chance.choice([list, tuple])(chance.sample(lot, len(lot)))
                self.assertEqual(watchers.sees(given), seen_by(rows, lot))
                wanted = reaches(seen_by(rows, lot), word)
                answers[wanted] += 1
                self.assertIs(watchers.can(given, word), wanted)
        self.assertGreater(min(answers.values()), 30)

    def test_against_trying_all_lots(self):
        many = {}
        for rows, word in cases():
            watchers = Watchers(rows)
            lots, able = lots_that_can(rows, word)
            least = least_of(able)
            self.assertEqual(watchers.least(word), least)
            self.assertEqual(watchers.unable(word), greatest_of([lot for lot in lots if lot not in able]))
            needed = [name for name in watchers.names() if not any(name not in lot for lot in able)]
            self.assertEqual(watchers.needed(word), needed)
            self.assertEqual(watchers.guards(word), least_of([
                lot for lot in lots if all(set(lot) & set(other) for other in least)
            ]))
            many[len(least), len(needed)] = True
        self.assertGreater(len(many), 7)

    def test_eight_watchers(self):
        rows = [(name, ["a" * (at + 3), "b"]) for at, name in enumerate(NAMES)]
        watchers = Watchers(rows)
        lots, able = lots_that_can(rows, "a" * 11 + "b")
        self.assertEqual(watchers.least("a" * 11 + "b"), least_of(able))
        self.assertEqual(watchers.unable("a" * 11 + "b"), greatest_of([lot for lot in lots if lot not in able]))
        self.assertGreater(len(least_of(able)), 6)

    def test_no_watchers(self):
        watchers = Watchers([])
        self.assertEqual(watchers.names(), [])
        self.assertEqual(watchers.sees([]), [])
        self.assertIs(watchers.can((), "a"), False)
        self.assertEqual(watchers.least("a"), [])
        self.assertEqual(watchers.unable("a"), [()])
        self.assertEqual(watchers.needed("a"), [])
        self.assertEqual(watchers.guards("a"), [()])

    def test_all_together_cannot(self):
        watchers = Watchers([("b", ["a"]), ("a", ["aa"]), ("c", [])])
        self.assertEqual(watchers.least("ab"), [])
        self.assertEqual(watchers.unable("ab"), [("a", "b", "c")])
        self.assertEqual(watchers.needed("ab"), ["a", "b", "c"])
        self.assertEqual(watchers.guards("ab"), [()])

    def test_one_watcher(self):
        watchers = Watchers([("x", ["a"])])
        self.assertEqual(watchers.least("aa"), [("x",)])
        self.assertEqual(watchers.unable("aa"), [()])
        self.assertEqual(watchers.needed("aa"), ["x"])
        self.assertEqual(watchers.guards("aa"), [("x",)])

    def test_more_than_twelve_watches(self):
        letters = "abcdefghijklmnopqrstuvwx"
        rows = [("one", list(letters[:12])), ("two", list(letters[12:]))]
        watchers = Watchers(rows)
        self.assertEqual(watchers.sees(["two", "one"]), list(letters))
        self.assertIs(watchers.can(["one", "two"], letters), True)
        self.assertIs(watchers.can(["one"], letters), False)
        self.assertEqual(watchers.least(letters), [("one", "two")])
        self.assertEqual(watchers.needed(letters), ["one", "two"])
        self.assertEqual(watchers.guards(letters), [("one",), ("two",)])

    def test_lists_are_new(self):
        watchers = Watchers([("a", ["a"]), ("b", ["aa"])])
        for call in (watchers.least, watchers.unable, watchers.needed, watchers.guards):
            wanted = list(call("aa"))
            call("aa").append("x")
            self.assertEqual(call("aa"), wanted)


class Errors(unittest.TestCase):
    def setUp(self):
        self.watchers = Watchers([("b", ["a"]), ("a", ["aa", "b"]), ("ab", [])])

    def test_names(self):
        wrong = [thing for thing in strange_things() if thing not in ([], (), ["a"], ("a",))] + [
            ["a", "a"], ("b", "a", "b"), ["c"], ["a", "c"], ["a", None], ("a", ["b"]), "a", "ab", {"a": 1}, ["A"],
            ["a", "b", "ab", "a"], [("a",)],
        ]
        for names in wrong:
            for call, given in ((self.watchers.sees, ()), (self.watchers.can, ("a",)), (self.watchers.can, (None,))):
                kind, value = caught(call, names, *given)
                self.assertIs(kind, BadNames)
                self.assertIs(value, names)
        self.assertEqual(self.watchers.sees([]), [])
        self.assertEqual(self.watchers.sees(("ab", "b")), ["a"])

    def test_words(self):
        w = self.watchers
        for word in strange_things() + ["a" * 41]:
            if word == "a":
                continue
            for call in (w.least, w.unable, w.needed, w.guards, lambda word: w.can(["a"], word), lambda word: w.can([], word)):
                kind, value = caught(call, word)
                self.assertIs(kind, BadWord)
                self.assertIs(value, word)
            nobody = Watchers([])
            for call in (nobody.least, nobody.unable, nobody.needed, nobody.guards, lambda word: nobody.can([], word)):
                self.assertIs(caught(call, word)[0], BadWord)
        self.assertIs(w.can(["a", "b"], "a" * 40), True)


if __name__ == "__main__":
    unittest.main()
