import unittest
from itertools import product
from random import Random

from tests.support import (
    LONG_BOOKS, LONG_WORDS, caught, kinds_of_reckonings, random_web, small_cases, strange_things, words_of,
)
from watchedways.books import Book
from watchedways.errors import BadBook, BadMany, BadReckoning, BadRoads, BadWord, TooMany
from watchedways.lengths import Lengths
from watchedways.making import lots, widths, yes_no
from watchedways.numbers import Numbers
from watchedways.partings import is_parting, parting, parting_roads, tables_of_roads
from watchedways.ratios import Ratio
from watchedways.reckonings import Reckoning
from watchedways.speaking import Tongues
from watchedways.tongues import Tongue, tongue_of
from watchedways.webs import Web
from watchedways.zigzags import is_told

KINDS = kinds_of_reckonings() + [lots([[0, 1, 2], [1, 1, 1], [2, 2, 2]], 0)]


def is_reckoning(thing):
    return isinstance(thing, (Reckoning, Lengths, Numbers, Tongues))


def few_cases():
    """Books and words of 1 to 4 letters."""
    chance = Random(81)
    found = [(watches, word) for watches, word in small_cases() if len(word) <= 4]
    for word in words_of("ab", 4):
        pieces = sorted({word[i:j] for i in range(len(word)) for j in range(i + 1, len(word) + 1)})
        for _ in range(3):
            found.append((chance.sample(pieces, chance.randint(0, min(3, len(pieces)))), word))
    return found


def ways_by_letters(roads, word, places):
    """All (p, q) with a way of the word, one way after the other."""
    found = set()
    for start in range(places):
        ways = [(start,)]
        for letter in word:
            ways = list({way[-1:] + (end,) for way in ways for here, sign, end in roads if (here, sign) == (way[-1], letter)})
        found |= {(start, way[-1]) for way in ways}
    return sorted(found)


class Parting(unittest.TestCase):
    def test_told_and_untold_words(self):
        sizes = {}
        for at, (watches, word) in enumerate(few_cases()):
            book = Book(watches)
            for reckoning in (KINDS if at % 12 == 0 else [KINDS[at % len(KINDS)]]):
                found = parting(book, word, reckoning)
                told = is_told(book, word)
                sizes[len(word), told] = True
                if told:
                    self.assertIsNone(found)
                    continue
                self.check(found, book, word, reckoning)
        self.assertEqual(sorted(sizes), sorted(product((1, 2, 3, 4), (False, True))))

    def check(self, found, book, word, reckoning):
        self.assertIs(type(found), tuple)
        one, other = found
        for web in found:
            self.assertIs(type(web), Web)
            self.assertEqual(web.reckoning, reckoning)
            self.assertLessEqual(len(web.places), 2 * len(word) + 2)
            self.assertTrue(all(road[3] == reckoning.one for road in web.roads))
        self.assertEqual(one.places, other.places)
        for watch in book.watches:
            self.assertEqual(one.table(watch), other.table(watch))
        self.assertNotEqual(one.table(word), other.table(word))
        self.assertIs(is_parting(book, word, reckoning, found), True)
        self.assertIs(is_parting(book, word, reckoning, (other, one)), True)

    def test_no_watches(self):
        for reckoning in KINDS:
            for word in ("a", "ab", "aaaa"):
                self.check(parting(Book([]), word, reckoning), Book([]), word, reckoning)

    def test_every_told_word_of_a_letter(self):
        book = Book(["aa", "aaa"])
        for size in range(1, 5):
            self.assertIs(parting(book, "a" * size, Lengths()) is None, size > 1)

    def test_the_same_again(self):
        for reckoning in KINDS:
            first, second = parting(Book(["aa"]), "aab", reckoning), parting(Book(["aa"]), "aab", reckoning)
            self.assertEqual(first, second)
            self.assertEqual([web.roads for web in first], [web.roads for web in second])

    def test_too_many(self):
        for word in ("aaaaa", "ab" * 20, "a" * 40):
            for watches in ([], ["a", "b"], ["aa"]):
                for reckoning in KINDS:
                    kind, value = caught(parting, Book(watches), word, reckoning)
                    self.assertIs(kind, TooMany)
                    self.assertIsNone(value)


class Errors(unittest.TestCase):
    def test_order(self):
        good = (Book(["a"]), "b", Lengths())
        for call, behind in ((parting, ()), (is_parting, (None,)), (parting_roads, None)):
            def asked(*given):
                return caught(call, *(given[:2] if behind is None else given + behind))

            for thing in strange_things():
                if not isinstance(thing, Book):
                    for given in ((thing, *good[1:]), (thing, None, None), (thing, "a" * 41, 5)):
                        kind, value = asked(*given)
                        self.assertIs(kind, BadBook)
                        self.assertIs(value, thing)
            for thing in strange_things() + ["a" * 41, "A", "a b"]:
                for given in ((good[0], thing, good[2]), (good[0], thing, None)):
                    kind, value = asked(*given)
                    self.assertIs(kind, BadWord)
                    self.assertIs(value, thing)
            for thing in strange_things():
                if behind is not None and not is_reckoning(thing):
                    for word in ("b", "a", "aaaaa", "b" * 40):
                        kind, value = asked(good[0], word, thing)
                        self.assertIs(kind, BadReckoning)
                        self.assertIs(value, thing)


class IsParting(unittest.TestCase):
    def setUp(self):
        self.book, self.word = Book(["ab", "b"]), "aba"

    def test_long_words(self):
        # is_parting asks for no bound: ten places are enough for some long words.
        book, word = Book(["aa"]), "a" * 39
        for reckoning in KINDS:
            ring = [("p", "a", "q", reckoning.one), ("q", "a", "p", reckoning.one)]
            stay = [("p", "a", "p", reckoning.one), ("q", "a", "q", reckoning.one)]
            webs = (Web(reckoning, ["p", "q"], ring), Web(reckoning, ["p", "q"], stay))
            self.assertIs(is_parting(book, word, reckoning, webs), True)
            self.assertIs(is_parting(book, word[1:], reckoning, webs), False)
            self.assertIs(is_parting(Book(["aa", "a" * 11]), word, reckoning, webs), False)

    def test_told_words_have_none(self):
        chance = Random(82)
        for reckoning in KINDS:
            for _ in range(10):
                webs = tuple(random_web(chance, reckoning, 2, "ab", 3) for _ in range(2))
                self.assertIs(is_parting(Book(["a", "b"]), "ab", reckoning, webs), False)

    def test_against_tables(self):
        chance = Random(83)
        answers = {}
        for reckoning in KINDS:
            for _ in range(60):
                watches = chance.sample(["aa", "ab", "ba", "bb", "aba", "b"], chance.randint(0, 2))
                one, other = [random_web(chance, reckoning, 2, "ab", 3) for _ in range(2)]
                if chance.random() < 0.5:
                    roads = [road if chance.random() < 0.5 else ("a", *road[1:]) for road in one.roads]
                    try:
                        other = Web(reckoning, one.places, roads)
                    except ValueError:
                        continue
                for word in ("ab", "aba", "a"):
                    wanted = all(one.table(watch) == other.table(watch) for watch in watches)
                    wanted = wanted and one.table(word) != other.table(word)
                    answers[wanted] = True
                    self.assertIs(is_parting(Book(watches), word, reckoning, (one, other)), wanted)
        self.assertEqual(len(answers), 2)

    def test_another_reckoning(self):
        for one, other in product(range(len(KINDS)), repeat=2):
            webs = parting(self.book, self.word, KINDS[one])
            same = KINDS[one] == KINDS[other]
            self.assertIs(is_parting(self.book, self.word, KINDS[other], webs), same)
            mixed = (webs[0], parting(self.book, self.word, KINDS[other])[1])
            self.assertIs(is_parting(self.book, self.word, KINDS[one], mixed), same)
            self.assertIs(is_parting(self.book, self.word, KINDS[other], mixed), same)
        webs = parting(self.book, self.word, yes_no())
        self.assertIs(is_parting(self.book, self.word, widths(1), webs), True)
        self.assertIs(is_parting(self.book, self.word, widths(2), webs), False)

    def test_other_places(self):
        for reckoning in KINDS:
            one, other = parting(self.book, self.word, reckoning)
            names = {name: "new" + name for name in other.places}
            renamed = Web(reckoning, [names[name] for name in other.places],
                          [(names[start], letter, names[end], worth) for start, letter, end, worth in other.roads])
            self.assertIs(is_parting(self.book, self.word, reckoning, (one, renamed)), False)
            turned = Web(reckoning, other.places[::-1], other.roads)
            self.assertIs(is_parting(self.book, self.word, reckoning, (one, turned)), False)
            self.assertIs(is_parting(self.book, self.word, reckoning, (one, one)), False)
        lone = [Web(Lengths(), names, [("p", "a", "p", 0)]) for names in (["p"], ["p", "q"], ["q", "p"])]
        for one, other in product(lone, repeat=2):
            self.assertIs(is_parting(Book([]), "a", Lengths(), (one, other)), False)

    def test_other_kinds(self):
        for reckoning in KINDS:
            one, other = parting(self.book, self.word, reckoning)
            for thing in [[one, other], (one,), (one, other, one), (one, None), (None, other), one, {0: one, 1: other},
                          ((one, other),), (one.roads, other.roads), ([one], [other])] + strange_things():
                self.assertIs(is_parting(self.book, self.word, reckoning, thing), False)

    def test_one_road_otherwise(self):
        for reckoning in KINDS:
            one, other = parting(self.book, self.word, reckoning)
            for at in range(len(one.roads)):
                less = Web(reckoning, one.places, one.roads[:at] + one.roads[at + 1:])
                wanted = all(less.table(watch) == other.table(watch) for watch in self.book.watches)
                self.assertIs(is_parting(self.book, self.word, reckoning, (less, other)), wanted)

    def test_roads_in_another_order(self):
        for reckoning in KINDS:
            one, other = parting(self.book, self.word, reckoning)
            other = Web(reckoning, other.places, other.roads[::-1])
            self.assertIs(is_parting(self.book, self.word, reckoning, (one, other)), True)

    def test_ratios(self):
        webs = tuple(Web(Numbers(), ["p"], [("p", "a", "p", worth)]) for worth in (Ratio(2, 3), Ratio(-2, 3)))
        self.assertIs(is_parting(Book(["aa"]), "aaa", Numbers(), webs), True)
        self.assertIs(is_parting(Book(["aa"]), "aaaa", Numbers(), webs), False)

    def test_tongues_of_many_states(self):
        # The tables of these have more than 200 states; nothing that is judged raises an error.
        def line(size, *ends):
            return Tongue("0", [[at + 1] for at in range(size + 1)] + [[size + 1]], [*ends, size])

        tongues = Tongues("0")
        long = Web(tongues, ["p"], [("p", "a", "p", line(120)), ("p", "b", "p", line(120, 3))])
        other = Web(tongues, ["p"], [("p", "a", "p", line(119)), ("p", "b", "p", line(121))])
        self.assertEqual(caught(long.table, "aa"), (TooMany, None))
        for book, word, wanted in ((Book([]), "aa", True), (Book(["aa"]), "aaa", False), (Book([]), "a", True),
                                   (Book(["ab"]), "abb", False)):
            self.assertIs(is_parting(book, word, tongues, (long, other)), wanted)
            self.assertIs(is_parting(book, word, tongues, (long, long)), False)
        swapped = Web(tongues, ["p"], [("p", "a", "p", line(130)), ("p", "b", "p", line(100))])
        again = Web(tongues, ["p"], [("p", "a", "p", line(100)), ("p", "b", "p", line(130))])
        self.assertIs(is_parting(Book(["ab", "ba", "abab"]), "aab", tongues, (swapped, again)), True)
        self.assertIs(is_parting(Book(["ab", "ba"]), "abba", tongues, (swapped, again)), False)
        small = Web(tongues, ["p"], [("p", "a", "p", tongue_of("0", ["0"]))])
        self.assertIs(is_parting(Book(["b"]), "a", tongues, (small, Web(tongues, ["p"], []))), True)


class Roads(unittest.TestCase):
    def check(self, watches, word):
        book = Book(watches)
        found = parting_roads(book, word)
        self.assertIs(found is None, is_told(book, word))
        if found is None:
            return False
        self.assertIs(type(found), tuple)
        places, one, other = found
        self.assertTrue(type(places) is int and places >= 1)
        for roads in (one, other):
            self.assertIs(type(roads), tuple)
            self.assertLessEqual(len(roads), 2 * len(word))
            self.assertEqual(len(set(roads)), len(roads))
            for road in roads:
                self.assertTrue(type(road) is tuple and len(road) == 3 and road[1] in word and len(road[1]) == 1)
                self.assertTrue(all(type(end) is int and 0 <= end < places for end in (road[0], road[2])))
        for watch in watches:
            self.assertEqual(tables_of_roads(places, one, watch), tables_of_roads(places, other, watch))
        self.assertNotEqual(tables_of_roads(places, one, word), tables_of_roads(places, other, word))
        return True

    def test_small_words(self):
        parted = sum(self.check(watches, word) for watches, word in small_cases())
        self.assertGreater(parted, 200)

    def test_long_words(self):
        parted = sum(self.check(watches, word) for watches in LONG_BOOKS for word in LONG_WORDS)
        self.assertGreater(parted, 10)
        self.assertTrue(self.check([], "a" * 40))
        self.assertTrue(self.check(["aa", "aaaa", "a" * 12], "a" * 39))
        self.assertFalse(self.check(["aa", "aaa"], "a" * 39))

    def test_as_webs_of_every_reckoning(self):
        names = "abcdefghij"
        for watches, word in few_cases()[::5]:
            found = parting_roads(Book(watches), word)
            if found is not None:
                for reckoning in KINDS:
                    webs = tuple(
                        Web(reckoning, names[:found[0]] and list(names[:found[0]]),
                            [(names[start], letter, names[end], reckoning.one) for start, letter, end in roads])
                        for roads in found[1:]
                    )
                    self.assertIs(is_parting(Book(watches), word, reckoning, webs), True)

    def test_more_than_one_way(self):
        # Numbers of ways are alike, too, in webs of more places than a Web may have.
        for watches, word in ((["aa", "aaaa"], "a" * 9), (["ab", "ba"], "aba" * 4), (["aab", "baa"], "aabaabaab" + "aa")):
            places, one, other = parting_roads(Book(watches), word)
            for each in watches:
                self.assertEqual(self.numbers(places, one, each), self.numbers(places, other, each))
            self.assertNotEqual(self.numbers(places, one, word), self.numbers(places, other, word))

    def numbers(self, places, roads, word):
        found = []
        for start in range(places):
            ways = [start]
            for letter in word:
                ways = [end for here in ways for begin, sign, end in roads if (begin, sign) == (here, letter)]
            found.append([ways.count(end) for end in range(places)])
        return found


class TablesOfRoads(unittest.TestCase):
    ROADS = [(0, "a", 1), (1, "a", 2), (2, "b", 0), (0, "b", 0), (1, "b", 1), (0, "a", 2)]

    def test_ordinary(self):
        self.assertEqual(tables_of_roads(3, self.ROADS, "a"), [(0, 1), (0, 2), (1, 2)])
        self.assertEqual(tables_of_roads(3, self.ROADS, "aa"), [(0, 2)])
        self.assertEqual(tables_of_roads(3, self.ROADS, "ab"), [(0, 0), (0, 1), (1, 0)])
        self.assertEqual(tables_of_roads(3, self.ROADS, "c"), [])
        self.assertEqual(tables_of_roads(3, (), "a"), [])
        self.assertEqual(tables_of_roads(1, [(0, "a", 0)], "a" * 40), [(0, 0)])

    def test_against_all_ways(self):
        chance = Random(84)
        for _ in range(60):
            places = chance.randint(1, 6)
            roads = [(chance.randrange(places), chance.choice("ab"), chance.randrange(places)) for _ in range(12)]
            for word in ("a", "b", "ab", "bba", "ababab", "a" * 12):
                wanted = ways_by_letters(roads, word, places)
                for given in (roads, tuple(roads), roads + roads[:3], roads[::-1]):
                    found = tables_of_roads(places, given, word)
                    self.assertEqual(found, wanted)
                    self.assertIs(type(found), list)

    def test_many_roads(self):
        chance = Random(85)
        roads = [(chance.randrange(100), "a", chance.randrange(100)) for _ in range(200)]
        first = tables_of_roads(100, roads, "aa")
        self.assertEqual(first, ways_by_letters(roads, "aa", 100))
        self.assertEqual(first, sorted(set(first)))
        self.assertEqual(len(tables_of_roads(100, [(at, "a", (at + 1) % 100) for at in range(100)] * 2, "a" * 40)), 100)

    def test_places(self):
        for places in strange_things() + [101, 10 ** 9, 1.0, "3"]:
            if type(places) is int and 1 <= places <= 100:
                continue
            for given in (([], "a"), (None, None)):
                kind, value = caught(tables_of_roads, places, *given)
                self.assertIs(kind, BadMany)
                self.assertIs(value, places)
        self.assertEqual(tables_of_roads(100, [(99, "a", 0)], "a"), [(99, 0)])

    def test_row_of_roads(self):
        for roads in strange_things() + [[(0, "a", 0)] * 201, ((0, "a", 0),) * 201, [None] * 201, {(0, "a", 0): 1}, "a"]:
            if type(roads) in (list, tuple) and len(roads) <= 200:
                continue
            self.assertEqual(caught(tables_of_roads, 3, roads, "a"), (BadRoads, -1))
            self.assertEqual(caught(tables_of_roads, 3, roads, None), (BadRoads, -1))
        self.assertEqual(tables_of_roads(3, [(0, "a", 0)] * 200, "a"), [(0, 0)])

    def test_wrong_road(self):
        wrong = strange_things() + [[0, "a", 1], (0, "a"), (0, "a", 1, 1), (3, "a", 0), (0, "a", 3), (-1, "a", 0), (0, "a", -1),
                                    (True, "a", 0), (0, "a", False), (0, "", 0), (0, "ab", 0), (0, "A", 0), (0, 1, 0),
                                    (0, None, 0), ("0", "a", 0), (0, "a", None), (0.0, "a", 0), (0, ("a",), 0)]
        for thing in wrong:
            for at in (0, 3, 6):
                roads = self.ROADS[:at] + [thing] + self.ROADS[at:]
                for given in (roads, tuple(roads), roads + [None]):
                    self.assertEqual(caught(tables_of_roads, 3, given, "a"), (BadRoads, at), thing)
                    self.assertEqual(caught(tables_of_roads, 3, given, 7), (BadRoads, at), thing)

    def test_word(self):
        for word in strange_things() + ["a" * 41]:
            kind, value = caught(tables_of_roads, 3, self.ROADS, word)
            self.assertIs(kind, BadWord)
            self.assertIs(value, word)


if __name__ == "__main__":
    unittest.main()
