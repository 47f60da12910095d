import time
import unittest

from tests.support import (
    LONG_BOOKS, LONG_WORDS, all_zigzags, caught, piece_is_watch, small_cases, strange_things, turns_and_spots,
    turns_of, words_of,
)
from watchedways.books import Book
from watchedways.errors import BadBook, BadSpot, BadWord
from watchedways.zigzags import calmest, classes, is_told, is_zigzag, neighbours, zigzag

DOCUMENT_BOOK = Book(["aaaa", "aaa"])


class Neighbours(unittest.TestCase):
    def test_both_sides(self):
        book = Book(["ab", "b", "aba"])
        self.assertEqual([neighbours(book, "aabab", spot) for spot in range(6)], [
            [], [3, 4], [3], [1, 2, 5], [1, 5], [3, 4]])
        self.assertEqual(neighbours(Book(["aaa", "a", "aa"]), "aaaaaa", 3), [0, 1, 2, 4, 5, 6])
        self.assertEqual(neighbours(Book(["a", "aaa", "aa"]), "aaaaaa", 0), [1, 2, 3])
        self.assertEqual(neighbours(Book([]), "a", 0), [])

    def test_small_words(self):
        for watches, word in small_cases():
            for spot in range(len(word) + 1):
                found = [other for other in range(len(word) + 1) if piece_is_watch(watches, word, spot, other)]
                self.assertEqual(neighbours(Book(watches), word, spot), found)

    def test_long_words(self):
        self.assertEqual(neighbours(Book(["a" * 12, "a"]), "a" * 40, 20), [8, 19, 21, 32])
        self.assertEqual(neighbours(Book(["a" * 12, "a"]), "a" * 40, 40), [28, 39])
        self.assertEqual(neighbours(Book(["a" * 12, "a"]), "a" * 40, 5), [4, 6, 17])

    def test_wrong_spots(self):
        book = Book(["a"])
        for wrong in strange_things() + [-1, 4, 5, True, False, 10 ** 40]:
            if isinstance(wrong, int) and not isinstance(wrong, bool) and 0 <= wrong <= 3:
                continue
            kind, value = caught(neighbours, book, "aaa", wrong)
            self.assertIs(kind, BadSpot)
            self.assertIs(value, wrong)
        for spot, answer in ((0, [1]), (3, [2])):
            self.assertEqual(neighbours(book, "aaa", spot), answer)


class Classes(unittest.TestCase):
    def test_ordinary(self):
        self.assertEqual(classes(Book(["aa"]), "aaaaa"), [(0, 2, 4), (1, 3, 5)])
        self.assertEqual(classes(Book([]), "abc"), [(0,), (1,), (2,), (3,)])
        self.assertEqual(classes(Book(["abc"]), "abc"), [(0, 3), (1,), (2,)])
        self.assertEqual(classes(DOCUMENT_BOOK, "aaaaa"), [(0, 1, 2, 3, 4, 5)])
        self.assertEqual(classes(DOCUMENT_BOOK, "aaaa"), [(0, 1, 3, 4), (2,)])

    def test_small_words(self):
        for watches, word in small_cases():
            found = classes(Book(watches), word)
            spots = range(len(word) + 1)
            self.assertEqual(sorted(spot for lot in found for spot in lot), list(spots))
            self.assertEqual(found, sorted(found))
            self.assertTrue(all(isinstance(lot, tuple) and list(lot) == sorted(lot) for lot in found))
            # Each lot holds together, and nothing leads out of it.
            for lot in found:
                reached = {lot[0]}
                for _ in spots:
                    reached |= {b for a in reached for b in spots if piece_is_watch(watches, word, a, b)}
                self.assertEqual(sorted(reached), list(lot))

    def test_long_words(self):
        self.assertEqual(
            classes(Book(["a" * 12, "a" * 8]), "a" * 40), [tuple(range(r, 41, 4)) for r in range(4)])


class Told(unittest.TestCase):
    def test_small_words(self):
        for watches, word in small_cases():
            self.assertIs(is_told(Book(watches), word), bool(all_zigzags(watches, word)))

    def test_without_watches_nothing_is_told(self):
        for word in words_of("ab", 4):
            self.assertIs(is_told(Book([]), word), False)
            self.assertIs(is_told(Book(["a", "b"]), word), True)

    def test_every_watch_is_told(self):
        for word in words_of("ab", 4):
            self.assertIs(is_told(Book(["b" * 12, word]), word), True)


class FewestSpots(unittest.TestCase):
    def test_ordinary(self):
        self.assertEqual(zigzag(Book(["aaa", "aa"]), "aaaaa"), (0, 2, 5))
        self.assertEqual(zigzag(DOCUMENT_BOOK, "aaaaa"), (0, 4, 1, 5))
        self.assertEqual(zigzag(Book(["abc"]), "abc"), (0, 3))
        self.assertIsNone(zigzag(Book(["aa"]), "aaa"))
        self.assertIsNone(zigzag(Book([]), "a"))

    def test_small_words(self):
        ties = 0
        for watches, word in small_cases():
            ways = sorted(all_zigzags(watches, word), key=lambda way: (len(way), way))
            self.assertEqual(zigzag(Book(watches), word), ways[0] if ways else None)
            ties += len(ways) > 1 and len(ways[0]) == len(ways[1])
        self.assertGreater(ties, 50)

    def test_long_words(self):
        self.assertEqual(zigzag(Book(["a" * size for size in range(1, 13)]), "a" * 40), (0, 4, 16, 28, 40))
        self.assertEqual(zigzag(Book(["a"]), "a" * 40), tuple(range(41)))
        self.assertEqual(zigzag(Book(["ab", "ba", "a"]), "ab" * 20), tuple(range(0, 41, 2)))


class Calmest(unittest.TestCase):
    def test_ordinary(self):
        self.assertEqual(calmest(Book(["aaa", "aa"]), "aaaaa"), (0, 2, 5))
        self.assertEqual(calmest(DOCUMENT_BOOK, "aaaaa"), (0, 4, 1, 5))
        self.assertIsNone(calmest(Book(["aa"]), "aaa"))

    def test_calm_may_be_longer(self):
        book = Book(["abcde", "e", "efgh", "a", "b", "c", "d"])
        self.assertEqual(zigzag(book, "abcdefgh"), (0, 5, 4, 8))
        self.assertEqual(calmest(book, "abcdefgh"), (0, 1, 2, 3, 4, 8))
        book = Book(["abcde", "e", "efgh", "a", "b", "c", "d", "cd", "ab"])
        self.assertEqual(calmest(book, "abcdefgh"), (0, 2, 4, 8))
        book = Book(["abcde", "e", "efgh", "a", "b", "c", "d", "bcd", "abc"])
        self.assertEqual(calmest(book, "abcdefgh"), (0, 1, 4, 8))

    def test_small_words(self):
        spot_ties = turn_ties = unlike = 0
        for watches, word in small_cases():
            ways = sorted(all_zigzags(watches, word), key=lambda way: (turns_of(way), len(way), way))
            self.assertEqual(calmest(Book(watches), word), ways[0] if ways else None)
            if len(ways) > 1 and turns_of(ways[0]) == turns_of(ways[1]):
                turn_ties += 1
                spot_ties += len(ways[0]) == len(ways[1])
            unlike += bool(ways) and ways[0] != zigzag(Book(watches), word)
        self.assertGreater(turn_ties, 50)
        self.assertGreater(spot_ties, 50)
        self.assertGreater(unlike, 5)

    def test_turns_back_and_forth(self):
        book = Book(["a" * 7, "a" * 5])
        ways = sorted(all_zigzags(book.watches, "a" * 11), key=lambda way: (turns_of(way), len(way), way))
        self.assertGreater(turns_of(ways[0]), 3)
        self.assertEqual(calmest(book, "a" * 11), ways[0])

    def test_long_words(self):
        self.assertEqual(calmest(Book(["a" * size for size in range(1, 13)]), "a" * 40), (0, 4, 16, 28, 40))
        way = (0, 12, 1, 13, 25, 37, 26, 15, 4, 16, 28, 40)
        self.assertEqual(calmest(Book(["a" * 12, "a" * 11]), "a" * 40), way)
        for word in LONG_WORDS:
            for watches in LONG_BOOKS:
                way = calmest(Book(watches), word)
                cost = None if way is None else (turns_of(way), len(way))
                self.assertEqual(cost, turns_and_spots(watches, word))


class ZigzagsJudged(unittest.TestCase):
    def test_every_tuple_of_spots(self):
        for watches, word in (["aa", "aaa"], "aaaaa"), (["ab", "b", "bab"], "abab"), (["a", "ab", "b"], "ab"):
            good = set(all_zigzags(watches, word))
            self.assertGreater(len(good), 1)
            open_ways = [()]
            while open_ways:
                way = open_ways.pop()
                self.assertIs(is_zigzag(Book(watches), word, way), way in good)
                if len(way) < 5:
                    open_ways += [way + (spot,) for spot in range(-1, len(word) + 2)]

    def test_a_spot_twice(self):
        book = Book(["a", "aa"])
        self.assertIs(is_zigzag(book, "aa", (0, 2)), True)
        self.assertIs(is_zigzag(book, "aa", (0, 1, 2)), True)
        self.assertIs(is_zigzag(book, "aa", (0, 1, 0, 2)), False)
        self.assertIs(is_zigzag(book, "aa", (0, 2, 1, 2)), False)
        self.assertIs(is_zigzag(book, "aaa", (0, 2, 1, 3)), True)
        self.assertIs(is_zigzag(book, "aaa", (0, 2, 1, 2, 3)), False)

    def test_flags_and_lists(self):
        book = Book(["a", "aa"])
        for thing in [(False, 1, 2), (0, True, 2), (False, 2), [0, 2], [0, 1, 2], (0, "1", 2), (0, None, 2),
                      (0, (1,), 2), (0, 2.0), (0, 1, [2]), ("0", "2"), (0, 2, {})]:
            self.assertIs(is_zigzag(book, "aa", thing), False)
        self.assertIs(is_zigzag(Book(["a"]), "a", (0, True)), False)
        self.assertIs(is_zigzag(Book(["a"]), "a", (0, 1)), True)

    def test_things_of_every_kind(self):
        for thing in strange_things():
            for word in ("a", "ab", "a" * 40):
                self.assertIs(is_zigzag(Book(["a", "b"]), word, thing), False)

    def test_it_is_a_zigzag_that_is_found(self):
        for watches, word in small_cases():
            book = Book(watches)
            for way in (zigzag(book, word), calmest(book, word)):
                self.assertIs(is_zigzag(book, word, way), way is not None)


class Asking(unittest.TestCase):
    ASKED = (lambda book, word: neighbours(book, word, -1), classes, is_told, zigzag, calmest,
             lambda book, word: is_zigzag(book, word, None))

    def test_wrong_books_come_first(self):
        for call in self.ASKED:
            for wrong in strange_things() + [["a"], "a"]:
                if not isinstance(wrong, Book):
                    for word in ("", "a", None):
                        kind, value = caught(call, wrong, word)
                        self.assertIs(kind, BadBook)
                        self.assertIs(value, wrong)

    def test_wrong_words_come_next(self):
        for call in self.ASKED:
            for wrong in strange_things() + ["a" * 41, "A"]:
                kind, value = caught(call, Book(["a"]), wrong)
                self.assertIs(kind, BadWord)
                self.assertIs(value, wrong)

    def test_the_same_again(self):
        for watches, word in small_cases()[::7]:
            book, turned = Book(watches), Book(watches[::-1])
            for call in (classes, is_told, zigzag, calmest):
                self.assertEqual(call(book, word), call(book, word))
                self.assertEqual(call(book, word), call(turned, word))
            for spot in range(len(word) + 1):
                self.assertEqual(neighbours(book, word, spot), neighbours(turned, word, spot))
            self.assertEqual(book.watches, tuple(watches))

    def test_answers_are_new_lists(self):
        book = Book(["a", "aa"])
        for call in (classes, lambda book, word: neighbours(book, word, 1)):
            before = call(book, "aaa")
            kept = list(before)
            before.append("x")
            before.reverse()
            self.assertEqual(call(book, "aaa"), kept)
            self.assertIsNot(call(book, "aaa"), call(book, "aaa"))

    def test_long_words_take_no_time(self):
        for word in LONG_WORDS:
            for watches in LONG_BOOKS:
                book = Book(watches)
                begin = time.perf_counter()
                classes(book, word), is_told(book, word), neighbours(book, word, 20)
                for way in (zigzag(book, word), calmest(book, word)):
                    self.assertIs(is_zigzag(book, word, way), is_told(book, word))
                self.assertLess(time.perf_counter() - begin, 1)


if __name__ == "__main__":
    unittest.main()
