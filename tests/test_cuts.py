import time
import unittest
from itertools import product

from tests.support import LONG_WORDS, all_cuts, caught, small_cases, strange_things, words_of
from watchedways.books import Book
from watchedways.cuts import cut, greatest_cut, is_cut
from watchedways.errors import BadBook, BadWord
from watchedways.zigzags import zigzag


class FoundCuts(unittest.TestCase):
    def test_ordinary(self):
        self.assertEqual(cut(Book(["aa"]), "aaaaa"), (0, 2, 4))
        self.assertEqual(greatest_cut(Book(["aa"]), "aaaaa"), (0, 2, 4))
        self.assertEqual(cut(Book([]), "abc"), (0,))
        self.assertEqual(greatest_cut(Book([]), "abc"), (0, 1, 2))
        self.assertEqual(cut(Book(["ab", "c"]), "abcd"), (0, 2, 3))
        self.assertEqual(greatest_cut(Book(["ab", "d"]), "abcd"), (0, 1, 2))
        self.assertIsNone(cut(Book(["abc"]), "abc"))
        self.assertIsNone(greatest_cut(Book(["abc"]), "abc"))
        self.assertEqual((cut(Book([]), "a"), greatest_cut(Book([]), "a")), ((0,), (0,)))

    def test_small_words(self):
        unlike = 0
        for watches, word in small_cases():
            cuts = sorted(all_cuts(watches, word), key=len)
            book = Book(watches)
            self.assertEqual(cut(book, word), cuts[0] if cuts else None)
            self.assertEqual(greatest_cut(book, word), cuts[-1] if cuts else None)
            unlike += cut(book, word) != greatest_cut(book, word)
        self.assertGreater(unlike, 50)

    def test_either_a_zigzag_or_a_cut(self):
        for watches, word in small_cases() + [(["ab", "b"], word) for word in words_of("abc", 4)]:
            book = Book(watches)
            told = zigzag(book, word) is not None
            self.assertIs(cut(book, word) is None, told)
            self.assertIs(greatest_cut(book, word) is None, told)

    def test_long_words(self):
        book = Book(["a" * 12, "a" * 9])
        self.assertEqual(cut(book, "a" * 40), tuple(range(0, 40, 3)))
        self.assertEqual(greatest_cut(book, "a" * 40), tuple(spot for spot in range(40) if spot % 3 != 1))
        for word in LONG_WORDS:
            for watches in (["a" * size for size in range(2, 13, 2)], ["ab", "bab", "cab"], ["aa", "ba"]):
                book = Book(watches)
                begin = time.perf_counter()
                for found in (cut(book, word), greatest_cut(book, word)):
                    self.assertIs(is_cut(book, word, found), zigzag(book, word) is None)
                self.assertLess(time.perf_counter() - begin, 1)


class CutsJudged(unittest.TestCase):
    def test_every_lot_of_spots(self):
        for watches, word in small_cases()[::5]:
            book, good = Book(watches), set(all_cuts(watches, word))
            for flags in product((False, True), repeat=len(word) + 1):
                lot = tuple(spot for spot in range(len(word) + 1) if flags[spot])
                self.assertIs(is_cut(book, word, lot), lot in good)

    def test_order_and_spots(self):
        book = Book(["aa"])
        self.assertIs(is_cut(book, "aaaaa", (0, 2, 4)), True)
        for thing in [(), (2, 4), (0,), (0, 2), (0, 4, 2), (0, 2, 2, 4), (2, 0, 4), (0, 0, 2, 4), (0, 2, 4, 6),
                      (-2, 0, 2, 4), (0, 2, 4, 5), (1, 3), (1, 3, 5), (0, 2, 4, 10 ** 30)]:
            self.assertIs(is_cut(book, "aaaaa", thing), False)
        self.assertIs(is_cut(Book([]), "ab", (0, 1)), True)
        self.assertIs(is_cut(Book([]), "ab", (0, 1, 2)), False)
        self.assertIs(is_cut(Book([]), "ab", (0, 1, 3)), False)
        self.assertIs(is_cut(Book([]), "ab", (0, -1)), False)

    def test_flags_and_lists(self):
        book = Book([])
        for thing in [(False,), (False, 1), (0, True), [0], [0, 1], (0.0,), (0, 1.0), ("0",), (0, None), (0, (1,)),
                      (0, [1]), {0: 1}, 0]:
            self.assertIs(is_cut(book, "abc", thing), False)

    def test_things_of_every_kind(self):
        for thing in strange_things():
            for word in ("a", "ab", "a" * 40):
                self.assertIs(is_cut(Book(["b"]), word, thing), False)

    def test_no_cut_of_a_told_word(self):
        for lot in [(0,), (0, 1), (0, 2), (0, 1, 2)]:
            self.assertIs(is_cut(Book(["a"]), "aaa", lot), False)


class Asking(unittest.TestCase):
    ASKED = (cut, greatest_cut, lambda book, word: is_cut(book, word, None))

    def test_wrong_books_come_first(self):
        for call in self.ASKED:
            for wrong in strange_things() + [["a"], "a"]:
                if not isinstance(wrong, Book):
                    for word in ("", "a", None):
                        kind, value = caught(call, wrong, word)
                        self.assertIs(kind, BadBook)
                        self.assertIs(value, wrong)

    def test_wrong_words_come_next(self):
        for call in self.ASKED:
            for wrong in strange_things() + ["a" * 41, "A"]:
                kind, value = caught(call, Book(["a"]), wrong)
                self.assertIs(kind, BadWord)
                self.assertIs(value, wrong)

    def test_the_same_again(self):
        for watches, word in small_cases()[::7]:
            book, turned = Book(watches), Book(watches[::-1])
            for call in (cut, greatest_cut):
                self.assertEqual(call(book, word), call(book, word))
                self.assertEqual(call(book, word), call(turned, word))


if __name__ == "__main__":
    unittest.main()
