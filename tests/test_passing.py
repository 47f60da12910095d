import unittest
from random import Random

from tests.support import caught, least_of, reaches, strange_things, sub_lots, words_of
from watchedways.errors import BadMenu, BadName, BadTies, BadWatchers, BadWord, TooMany
from watchedways.halls import Hall
from watchedways.lengths import Lengths
from watchedways.passing import least_ties, passing, tells_at_last
from watchedways.watchers import Watchers

PIECES = words_of("ab", 3) + ["aaaa", "abab", "c"]
MENU = words_of("ab", 4) + ["abc", "ababab", "ac", "a" * 40]
NAMES = ["b", "ab", "a", "z", "c"]


def drawn(chance, most=8):
    """Rows of watchers, ties between them, and a menu."""
    names = chance.sample(NAMES, chance.randint(0, 5))
    rows = [(name, chance.sample(PIECES, chance.randint(0, 2))) for name in names]
    ties = [(one, other) for one in names for other in names if one != other]
    ties = chance.sample(ties, min(len(ties), chance.randint(0, most)))
    watches = sorted({watch for _, row in rows for watch in row})
    menu = chance.sample(MENU, chance.randint(0, 4)) + chance.sample(watches, min(len(watches), chance.randint(0, 4)))
    menu = list(dict.fromkeys(menu))
    return rows, chance.choice([list, tuple])(ties), chance.choice([list, tuple])(menu)


def going_round(rows, ties, menu):
    """What each one knows behind each round, in the words of [35]."""
    known = {name: set(watches) for name, watches in rows}
    rounds = [known]
    while True:
        fresh = {name: set(known[name]) for name in known}
        for one, other in ties:
            for word in menu:
                if reaches(known[one], word):
                    fresh[other].add(word)
        if fresh == known:
            return rounds
        known = fresh
        rounds.append(known)


def first_rounds(rows, ties, menu):
    found = {}
    for number, known in enumerate(going_round(rows, ties, menu)):
        for name in known:
            for word in menu:
                if (name, word) not in found and reaches(known[name], word):
                    found[name, word] = number
    return found


LINE = [("a", ["ab"]), ("b", ["b"]), ("c", []), ("d", ["c", "x"])]


class Passing(unittest.TestCase):
    def test_ordinary(self):
        watchers = Watchers(LINE)
        ties = [("a", "b"), ("b", "c"), ("c", "d")]
        self.assertEqual(passing(watchers, ties, ["ab", "abb"]), {
            ("a", "ab"): 0, ("b", "ab"): 1, ("b", "abb"): 1, ("c", "ab"): 2, ("c", "abb"): 2, ("d", "ab"): 3, ("d", "abb"): 3,
        })
        self.assertEqual(passing(watchers, ties, ["a"]), {})
        self.assertEqual(passing(watchers, [], ["ab", "b", "aab"]), {("a", "ab"): 0, ("b", "b"): 0})
        self.assertEqual(passing(watchers, ties, []), {})

    def test_rounds_go_all_at_once(self):
        # In the order of the ties the word would run through all of them in one round.
        for ties in ([("a", "b"), ("b", "c"), ("c", "d")], [("c", "d"), ("b", "c"), ("a", "b")]):
            found = passing(Watchers(LINE), ties, ["ab"])
            self.assertEqual(found, {("a", "ab"): 0, ("b", "ab"): 1, ("c", "ab"): 2, ("d", "ab"): 3})

    def test_what_is_told_together(self):
        watchers = Watchers([("a", ["aab"]), ("b", ["ab"]), ("c", ["abab"])])
        ties = [("a", "c"), ("b", "c"), ("c", "a")]
        self.assertEqual(passing(watchers, ties, ["aab", "ab", "aabab"]), {
            ("a", "aab"): 0, ("b", "ab"): 0, ("c", "aab"): 1, ("c", "ab"): 1, ("c", "aabab"): 1, ("a", "ab"): 2, ("a", "aabab"): 2,
        })

    def test_against_going_round(self):
        chance = Random(351)
        numbers = {}
        for _ in range(600):
            rows, ties, menu = drawn(chance)
            found = passing(Watchers(rows), ties, menu)
            self.assertEqual(found, first_rounds(rows, ties, menu))
            for number in found.values():
                numbers[number] = numbers.get(number, 0) + 1
        self.assertGreater(numbers[1], 60)
        self.assertGreater(numbers[2], 10)
        self.assertGreater(numbers[3], 2)

    def test_more_than_twelve_words(self):
        letters = "abcdefghijklmnopqrstuvwx"
        watchers = Watchers([("one", list(letters[:12])), ("two", list(letters[12:])), ("three", [])])
        menu = list(letters[12:23]) + [letters]
        found = passing(watchers, [("two", "one"), ("one", "two")], menu)
        self.assertEqual(found, {
            **{("two", letter): 0 for letter in letters[12:23]}, **{("one", letter): 1 for letter in letters[12:23]},
        })
        self.assertIs(tells_at_last(watchers, [("two", "one")], menu, "one", letters[:23]), True)
        self.assertIs(tells_at_last(watchers, [("two", "one")], menu, "one", letters), False)
        self.assertIs(tells_at_last(watchers, [("two", "one")], letters[12:23].split() + ["x"], "one", "ax"), True)

    def test_long_words(self):
        watchers = Watchers([("a", ["a" * 12]), ("b", ["a" * 11]), ("c", [])])
        ties = [("a", "c"), ("c", "b")]
        found = passing(watchers, ties, ["a" * 36, "a" * 12, "a"])
        self.assertEqual(found[("b", "a" * 36)], 2)
        self.assertNotIn(("b", "a"), found)
        self.assertIs(tells_at_last(watchers, ties, ["a" * 36, "a" * 12], "b", "a" * 23), True)
        self.assertIs(tells_at_last(watchers, ties, ["a" * 36, "a" * 12], "b", "a" * 40), True)
        self.assertIs(tells_at_last(watchers, ties, ["a" * 36], "b", "a" * 37), False)

    def test_answers_are_new(self):
        watchers, ties, menu = Watchers(LINE), [("a", "b")], ["ab"]
        passing(watchers, ties, menu).clear()
        self.assertEqual(passing(watchers, ties, menu), {("a", "ab"): 0, ("b", "ab"): 1})
        least_ties(watchers, ties, menu, "b", "ab").clear()
        self.assertEqual(least_ties(watchers, ties, menu, "b", "ab"), [(0,)])
        self.assertEqual((ties, menu), ([("a", "b")], ["ab"]))


class AtLast(unittest.TestCase):
    def test_any_word(self):
        chance = Random(352)
        answers = {True: 0, False: 0}
        for _ in range(200):
            rows, ties, menu = drawn(chance)
            last = going_round(rows, ties, menu)[-1]
            for name in last:
                for word in chance.sample(MENU, 3):
                    wanted = reaches(last[name], word)
                    answers[wanted] += 1
                    self.assertIs(tells_at_last(Watchers(rows), ties, menu, name, word), wanted)
        self.assertGreater(min(answers.values()), 80)

    def test_least_ties_against_trying_all_lots(self):
        chance = Random(353)
        many = {}
        for _ in range(80):
            rows, ties, menu = drawn(chance, 5)
            for name, word in [(name, word) for name, _ in rows for word in chance.sample(MENU, 1) + list(menu[-1:])]:
                able = [
                    lot for lot in sub_lots(range(len(ties)))
                    if reaches(going_round(rows, [ties[at] for at in lot], menu)[-1][name], word)
                ]
                found = least_ties(Watchers(rows), ties, menu, name, word)
                self.assertEqual(found, least_of(able))
                many[len(found), len(found[-1]) if found else 0] = True
        for seen in ((0, 0), (1, 0), (1, 1), (1, 2), (2, 2)):
            self.assertIn(seen, many)

    def test_least_ties(self):
        watchers = Watchers(LINE)
        ties = [("a", "c"), ("b", "c"), ("a", "b"), ("c", "d"), ("b", "d"), ("d", "a")]
        self.assertEqual(least_ties(watchers, ties, ["ab", "a", "b"], "d", "abb"), [(2, 4), (0, 1, 3), (0, 3, 4), (1, 2, 3)])
        self.assertEqual(least_ties(watchers, ties, ["ab", "a", "b"], "a", "abab"), [()])
        self.assertEqual(least_ties(watchers, ties, ["ab", "a", "b"], "d", "y"), [])

    def test_ten_and_eleven_ties(self):
        names = ["a", "b", "c", "d"]
        ties = [(one, other) for one in names for other in names if one != other]
        self.assertEqual(caught(least_ties, Watchers(LINE), ties[:11], ["ab"], "d", "ab"), (TooMany, None))
        self.assertEqual(caught(least_ties, Watchers(LINE), ties, [], "a", "ab"), (TooMany, None))
        self.assertIs(tells_at_last(Watchers(LINE), ties[:11], ["ab"], "d", "ab"), True)
        found = least_ties(Watchers(LINE), ties[:10], ["ab", "b"], "d", "bab")
        wanted = least_of([
            lot for lot in sub_lots(range(10))
            if reaches(going_round(LINE, [ties[at] for at in lot], ["ab", "b"])[-1]["d"], "bab")
        ])
        self.assertEqual(found, wanted)
        self.assertGreater(len(found), 3)

    def test_full_menu_and_all_watchers(self):
        names = ["a", "b", "c", "d", "e", "f", "g", "h"]
        rows = [(name, ["a" * (at + 5)]) for at, name in enumerate(names)]
        ties = list(zip(names, names[1:])) + [("h", "a"), ("a", "h"), ("c", "a")]
        menu = ["a" * size for size in range(1, 13)]
        found = least_ties(Watchers(rows), ties, menu, "h", "a" * 15)
        self.assertTrue(found)
        self.assertEqual(found, sorted(found, key=lambda lot: (len(lot), lot)))
        for lot in found:
            chosen = [ties[at] for at in lot]
            self.assertTrue(reaches(going_round(rows, chosen, menu)[-1]["h"], "a" * 15))
            for at in range(len(chosen)):
                self.assertFalse(reaches(going_round(rows, chosen[:at] + chosen[at + 1:], menu)[-1]["h"], "a" * 15))


class Errors(unittest.TestCase):
    def calls(self, word="a"):
        """All three, as calls of watchers, ties and a menu, for a watcher and a word that are good or not."""
        found = [passing]
        for name in ("a", "?"):
            found.append(lambda *given, name=name: tells_at_last(*given, name, word))
            found.append(lambda *given, name=name: least_ties(*given, name, None))
        return found

    def test_watchers(self):
        for call in self.calls():
            for thing in strange_things() + [[("a", [])], Hall(Lengths(), ["a"])]:
                if not isinstance(thing, Watchers):
                    kind, value = caught(call, thing, None, None)
                    self.assertIs(kind, BadWatchers)
                    self.assertIs(value, thing)

    def test_ties(self):
        watchers = Watchers(LINE)
        good = [("a", "b"), ("b", "a"), ("c", "d")]
        for call in self.calls():
            for thing in strange_things() + ["ab", {("a", "b"): True}]:
                if type(thing) not in (list, tuple):
                    self.assertEqual(caught(call, watchers, thing, None), (BadTies, -1))
            wrong = strange_things() + [("a",), ("a", "b", "c"), ["a", "d"], ("a", "a"), ("a", "z"), ("z", "a"), ("a", None),
                                        (None, "a"), ("a", ["b"]), ("b", "a"), "ab", ("A", "b")]
            for thing in wrong:
                for at in range(2, 4):
                    ties = good[:at] + [thing] + good[at:]
                    for given in (ties, tuple(ties), ties + [None]):
                        self.assertEqual(caught(call, watchers, given, None), (BadTies, at))
                if thing != ("b", "a"):
                    self.assertEqual(caught(call, watchers, [thing] + good, None), (BadTies, 0))

    def test_forty_and_forty_one_ties(self):
        names = ["a", "b", "c", "d", "e", "f", "g"]
        watchers = Watchers([(name, []) for name in names])
        ties = [(one, other) for one in names for other in names if one != other]
        self.assertEqual(passing(watchers, ties[:40], ["a"]), {})
        for call in self.calls():
            self.assertEqual(caught(call, watchers, ties[:41], None), (BadTies, -1))
            self.assertEqual(caught(call, watchers, [None] * 41, None), (BadTies, -1))
            self.assertEqual(caught(call, watchers, ties[:39] + [None], None), (BadTies, 39))

    def test_menu(self):
        watchers, ties = Watchers(LINE), [("a", "b")]
        good = ["a", "ab", "b" * 40]
        for call in self.calls():
            for thing in strange_things() + ["ab", {"a": True}]:
                if type(thing) not in (list, tuple):
                    self.assertEqual(caught(call, watchers, ties, thing), (BadMenu, -1))
            for thing in strange_things() + ["b" * 41, "A", ["a"], ("a",), "ab"]:
                for at in range(2, 4):
                    menu = good[:at] + [thing] + good[at:]
                    for given in (menu, tuple(menu), menu + [None]):
                        self.assertEqual(caught(call, watchers, ties, given), (BadMenu, at))
            self.assertEqual(caught(call, watchers, ties, ["", "a"]), (BadMenu, 0))
        thirteen = words_of("ab", 3)[:13]
        for call in self.calls():
            self.assertEqual(caught(call, watchers, ties, thirteen), (BadMenu, -1))
        self.assertEqual(passing(watchers, [], thirteen[:12]), {("a", "ab"): 0, ("b", "b"): 0, ("b", "bb"): 0})

    def test_names_and_words(self):
        watchers = Watchers(LINE)
        many = [(one, other) for one in "abcd" for other in "abcd" if one != other]
        for call in (tells_at_last, least_ties):
            for ties in ([], many):
                for name in strange_things() + ["z", "A", "aa", ["a"], ("a",)]:
                    if name == "a":
                        continue
                    for word in ("a", None):
                        kind, value = caught(call, watchers, ties, ["a"], name, word)
                        self.assertIs(kind, BadName)
                        self.assertIs(value, name)
                for word in strange_things() + ["a" * 41]:
                    if word == "a":
                        continue
                    kind, value = caught(call, watchers, ties, ["a"], "b", word)
                    self.assertIs(kind, BadWord)
                    self.assertIs(value, word)


if __name__ == "__main__":
    unittest.main()
