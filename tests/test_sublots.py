import unittest
from itertools import permutations
from random import Random

from tests.support import (
    caught, greatest_of, least_of, order_of_words, reaches, strange_things, sub_lots, words_of,
)
from watchedways.books import Book
from watchedways.errors import BadBook, BadWords, TooMany
from watchedways.sublots import is_least_lot, is_unable_lot, least_lots, unable_lots

PIECES = words_of("ab", 4) + ["aaaaa", "ababa", "abc", "c"]
CALLS = (least_lots, unable_lots)
JUDGES = (is_least_lot, is_unable_lot)


def cases():
    """Watches in any order, and words that they tell often enough, each with the two lists by trying all."""
    chance = Random(231)
    for many in range(9):
        for _ in range(7 if many < 8 else 3):
            watches = chance.sample(PIECES, many)
            words = [drawn_word(chance, watches) for _ in range(chance.randint(0, 3))]
            yield watches, words, *by_trying(watches, words)


def drawn_word(chance, watches):
    """A word put together of pieces, most of them watches."""
    parts = [chance.choice(watches if watches and chance.random() < 0.8 else PIECES) for _ in range(chance.randint(1, 3))]
    return "".join(parts)


def by_trying(watches, words):
    """The least lots that tell the words and the greatest that do not, by trying all."""
    lots = sub_lots(sorted(watches, key=order_of_words))
    able = [lot for lot in lots if all(reaches(lot, word) for word in words)]
    return least_of(able), greatest_of([lot for lot in lots if lot not in able])


class Lots(unittest.TestCase):
    def test_ordinary(self):
        book = Book(["aaa", "b", "aa", "a"])
        self.assertEqual(least_lots(book, ["a"]), [("a",)])
        self.assertEqual(least_lots(book, ["aaaa"]), [("a",), ("aa",)])
        self.assertEqual(least_lots(book, ["aaaaa"]), [("a",), ("aa", "aaa")])
        self.assertEqual(unable_lots(book, ["aaaaa"]), [("b", "aa"), ("b", "aaa")])
        self.assertEqual(least_lots(book, ["aab", "aaaa"]), [("a", "b"), ("b", "aa")])
        self.assertEqual(unable_lots(book, ("aab", "aaaa")), [("b", "aaa"), ("a", "aa", "aaa")])

    def test_shorter_watches_come_first(self):
        self.assertEqual(least_lots(Book(["ab", "b", "a", "aabb"]), ["aabb"]), [("aabb",), ("a", "b")])
        book = Book(["c", "bb", "b", "ccc", "aaa", "ca"])
        self.assertEqual(unable_lots(book, ["bc", "bbbccc"]), [("b", "bb", "ca", "aaa", "ccc"), ("c", "bb", "ca", "aaa", "ccc")])
        self.assertEqual(least_lots(book, ["bbbccc"]), [("b", "c"), ("b", "ccc")])

    def test_against_trying_all(self):
        sizes = {}
        for watches, words, least, unable in cases():
            for given in (words, tuple(words), words + words[::-1]):
                self.assertEqual(least_lots(Book(watches), given), least)
                self.assertEqual(unable_lots(Book(watches[::-1]), given), unable)
            sizes[len(least)] = True
            sizes[-len(unable)] = True
        self.assertGreater(len(sizes), 6)

    def test_each_least_lot_goes_beyond_each_unable_one(self):
        met = 0
        for watches, words, _, _ in cases():
            book = Book(watches)
            for least in least_lots(book, words):
                for unable in unable_lots(book, words):
                    met += 1
                    self.assertTrue(set(least) - set(unable))
        self.assertGreater(met, 50)

    def test_no_words_and_no_watches(self):
        for watches in ([], ["a"], ["ab", "b", "a"]):
            self.assertEqual(least_lots(Book(watches), []), [()])
            self.assertEqual(unable_lots(Book(watches), ()), [])
        self.assertEqual(least_lots(Book([]), ["a"]), [])
        self.assertEqual(unable_lots(Book([]), ["a"]), [()])

    def test_what_is_not_told(self):
        book = Book(["b", "ab", "a"])
        self.assertEqual(least_lots(book, ["ab", "c"]), [])
        self.assertEqual(unable_lots(book, ["ab", "c"]), [("a", "b", "ab")])

    def test_lists_are_new(self):
        book, words = Book(["a", "aa"]), ["aa"]
        for call in CALLS:
            wanted = list(call(book, words))
            call(book, words).clear()
            self.assertEqual(call(book, words), wanted)
        self.assertEqual(words, ["aa"])


class Judges(unittest.TestCase):
    def test_each_sub_lot(self):
        for watches, words, least, unable in cases():
            if len(watches) > 5:
                continue
            for lot in sub_lots(sorted(watches, key=order_of_words)):
                self.assertIs(is_least_lot(Book(watches), words, lot), lot in least)
                self.assertIs(is_unable_lot(Book(watches), words, lot), lot in unable)

    def test_other_orders_and_kinds(self):
        book = Book(["aa", "aaa", "b", "ab"])
        self.assertIs(is_least_lot(book, ["aaaaab"], ("b", "aa", "aaa")), True)
        self.assertIs(is_unable_lot(book, ["aaaaab"], ("b", "ab", "aaa")), True)
        for lot, judge in ((("b", "aa", "aaa"), is_least_lot), (("b", "ab", "aaa"), is_unable_lot)):
            for other in permutations(lot):
                self.assertIs(judge(book, ["aaaaab"], other), other == lot)
            wrong = [list(lot), lot + ("c",), lot[:-1], lot[:1] + lot, lot + lot[-1:], lot + (None,), (lot,), [lot]]
            wrong += [{name: True for name in lot}, ",".join(lot), lot[:-1] + (True,), lot[:-1] + (list(lot),)]
            for thing in wrong:
                self.assertIs(judge(book, ["aaaaab"], thing), False)

    def test_every_kind_of_value(self):
        for thing in strange_things():
            for judge in JUDGES:
                self.assertIs(judge(Book(["c", "d"]), ["cd"], thing), False)
            self.assertIs(is_least_lot(Book(["a"]), [], thing), thing == ())
            self.assertIs(is_unable_lot(Book(["a"]), ["a"], thing), thing == ())
            self.assertIs(is_unable_lot(Book([]), [], thing), False)
        self.assertIs(is_least_lot(Book(["b", "a"]), ["b"], ("a",)), False)
        self.assertIs(is_least_lot(Book(["b", "a"]), ["a"], ("a",)), True)


class Errors(unittest.TestCase):
    def calls(self):
        """Each of the four, as a call of a book and words."""
        return [*CALLS, *[lambda book, words, judge=judge: judge(book, words, ("a",)) for judge in JUDGES]]

    def test_books(self):
        for thing in strange_things():
            if isinstance(thing, Book):
                continue
            for call in self.calls():
                for words in (["a"], None, ["A"]):
                    kind, value = caught(call, thing, words)
                    self.assertIs(kind, BadBook)
                    self.assertIs(value, thing)

    def test_words(self):
        eleven = Book(["a" * size for size in range(1, 12)])
        for book in (Book(["a"]), eleven):
            for call in self.calls():
                for words in (None, "a", {"a": 1}, 3, ["a"] * 21, ("a",) * 21, book):
                    self.assertEqual(caught(call, book, words), (BadWords, -1))
                for thing in (None, True, "", "A", "a" * 41, ["a"], ("a",), 1):
                    for at in range(3):
                        words = ["a", "b"][:at] + [thing] + ["a", "b"][at:]
                        self.assertEqual(caught(call, book, words), (BadWords, at))
                        self.assertEqual(caught(call, book, tuple(words + [None])), (BadWords, at))

    def test_ten_and_eleven_watches(self):
        ten = [letter * 2 for letter in "abcdefghij"]
        for call in self.calls():
            self.assertEqual(caught(call, Book(ten + ["a"]), ["aa"]), (TooMany, None))
            self.assertEqual(caught(call, Book(ten + ["a", "b"]), []), (TooMany, None))
            self.assertIs(caught(call, Book(ten), ["aa"])[0], None)
        self.assertEqual(least_lots(Book(ten[::-1]), ["aabb", "aa"]), [("aa", "bb")])
        self.assertEqual(unable_lots(Book(ten), ["bb", "jj"]), [tuple(ten[:9]), ("aa", *ten[2:])])
        lengths = Book(["a" * size for size in range(3, 13)])
        wanted = by_trying(list(lengths.watches), ["a" * 13])
        self.assertEqual((least_lots(lengths, ["a" * 13]), unable_lots(lengths, ["a" * 13])), wanted)
        self.assertGreater(len(wanted[0]), 5)
        self.assertGreater(len(wanted[1]), 3)


if __name__ == "__main__":
    unittest.main()
