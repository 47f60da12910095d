import unittest
from itertools import product
from random import Random

from tests.support import LONG_BOOKS, LONG_WORDS, all_zigzags, caught, small_cases, strange_things, words_of
from watchedways.books import Book
from watchedways.errors import BadBook, BadLetters, BadMost, BadWord, BadWords
from watchedways.rules import is_rule, rule, unfold
from watchedways.telling import needless, rules_for, tells, tells_book, told_words
from watchedways.zigzags import is_told


def some_books(chance, many):
    pieces = words_of("ab", 4) + ["aaaaa", "ababa", "abc"]
    return [Book(chance.sample(pieces, chance.randint(0, 5))) for _ in range(many)]


class Words(unittest.TestCase):
    def test_ordinary(self):
        book = Book(["aa", "aaa"])
        self.assertIs(tells(book, ["aaaa", "aaaaa"]), True)
        self.assertIs(tells(book, ["aaaa", "a"]), False)
        self.assertIs(tells(book, ("a", "aaaa")), False)
        self.assertIs(tells(book, ["aaaa", "aaaa"]), True)

    def test_against_is_told(self):
        chance = Random(91)
        answers = {True: 0, False: 0}
        for book in some_books(chance, 60):
            for _ in range(10):
                words = [chance.choice(words_of("ab", 4)) for _ in range(chance.randint(0, 3))]
                wanted = all(bool(all_zigzags(book.watches, word)) for word in words)
                answers[wanted] += 1
                for given in (words, tuple(words), words[::-1], words + words):
                    self.assertIs(tells(book, given), wanted)
        self.assertGreater(min(answers.values()), 30)

    def test_no_words(self):
        for watches in ([], ["a"], ["ab", "b"]):
            self.assertIs(tells(Book(watches), []), True)
            self.assertIs(tells(Book(watches), ()), True)

    def test_long_words(self):
        for watches in LONG_BOOKS:
            book = Book(watches)
            self.assertIs(tells(book, LONG_WORDS), all(is_told(book, word) for word in LONG_WORDS))
            told = [word for word in LONG_WORDS if is_told(book, word)]
            self.assertIs(tells(book, told * (20 // max(1, len(told)))), True)

    def test_errors(self):
        book = Book(["a"])
        for thing in strange_things():
            if not isinstance(thing, Book):
                for words in (["a"], None, ["a"] * 21):
                    kind, value = caught(tells, thing, words)
                    self.assertIs(kind, BadBook)
                    self.assertIs(value, thing)
        for words in strange_things() + [["a"] * 21, ("a",) * 21, [None] * 21, "a", {"a": 1}, "ab"]:
            if type(words) in (list, tuple) and len(words) <= 20:
                continue
            self.assertEqual(caught(tells, book, words), (BadWords, -1))
        self.assertIs(tells(book, ["a"] * 20), True)
        self.assertIs(tells(book, ["a"] * 19 + ["b"]), False)
        good = ["a", "b", "a" * 40]
        for thing in strange_things() + ["a" * 41, "A", "a ", b"a"]:
            for at in range(4):
                words = good[:at] + [thing] + good[at:]
                for given in (words, tuple(words), words + [None]):
                    self.assertEqual(caught(tells, book, given), (BadWords, at))


class Books(unittest.TestCase):
    def pairs(self):
        return product(some_books(Random(92), 25), some_books(Random(93), 25))

    def test_tells_book(self):
        answers = {True: 0, False: 0}
        for one, other in self.pairs():
            wanted = all(is_told(one, watch) for watch in other.watches)
            answers[wanted] += 1
            self.assertIs(tells_book(one, other), wanted)
        self.assertGreater(min(answers.values()), 50)
        self.assertIs(tells_book(Book([]), Book([])), True)
        self.assertIs(tells_book(Book([]), Book(["a"])), False)
        self.assertIs(tells_book(Book(["a"]), Book(["aa", "a" * 12])), True)
        self.assertIs(tells_book(Book(["aa", "a" * 12]), Book(["a"])), False)

    def test_rules_for(self):
        for one, other in self.pairs():
            found = rules_for(one, other)
            self.assertIs(type(found), dict)
            self.assertEqual(sorted(found), sorted(watch for watch in other.watches if is_told(one, watch)))
            for watch in found:
                self.assertEqual(found[watch], rule(one, watch))
            found.clear()
            self.assertEqual(len(rules_for(one, other)), sum(is_told(one, watch) for watch in other.watches))

    def test_unfolded_rules_are_rules(self):
        unfolded = 0
        for one, other in self.pairs():
            if tells_book(one, other):
                for word in words_of("ab", 4):
                    steps = rule(other, word)
                    if steps is not None:
                        unfolded += 1
                        self.assertTrue(is_rule(one, word, unfold(steps, rules_for(one, other))))
        self.assertGreater(unfolded, 25)

    def test_errors(self):
        good = Book(["a"])
        for thing in strange_things():
            if not isinstance(thing, Book):
                for call in (tells_book, rules_for):
                    for given in ((thing, good), (good, thing), (thing, thing), (thing, None)):
                        kind, value = caught(call, *given)
                        self.assertIs(kind, BadBook)
                        self.assertIs(value, thing)
                for call, given in ((needless, ()), (told_words, ("ab", 3)), (told_words, (None, None))):
                    kind, value = caught(call, thing, *given)
                    self.assertIs(kind, BadBook)
                    self.assertIs(value, thing)


class Needless(unittest.TestCase):
    def test_ordinary(self):
        self.assertEqual(needless(Book(["aaa", "a", "aa"])), ["aaa", "aa"])
        self.assertEqual(needless(Book(["ab", "b", "a"])), ["ab"])
        self.assertEqual(needless(Book(["aab", "aa", "b", "c"])), ["aab"])
        self.assertEqual(needless(Book([])), [])
        self.assertEqual(needless(Book(["a"])), [])

    def test_against_other_books(self):
        chance = Random(94)
        many = 0
        for watches, _ in small_cases():
            shuffled = chance.sample(watches, len(watches))
            wanted = [watch for watch in shuffled if all_zigzags([other for other in watches if other != watch], watch)]
            many += len(wanted) > 1
            found = needless(Book(shuffled))
            self.assertIs(type(found), list)
            self.assertEqual(found, wanted)
        self.assertGreater(many, 20)


class ToldWords(unittest.TestCase):
    def test_against_is_told(self):
        chance = Random(95)
        for book in some_books(chance, 25) + [Book(["abc", "bc", "c", "cb"]), Book(["c", "ac"])]:
            for letters, most in (("a", 6), ("b", 3), ("ab", 5), ("ba", 4), ("cab", 3), ("bca", 2), ("abc", 1)):
                words = sorted(words_of(sorted(letters), most), key=lambda word: (len(word), word))
                found = told_words(book, letters, most)
                self.assertIs(type(found), list)
                self.assertEqual(found, [word for word in words if is_told(book, word)])

    def test_bounds(self):
        book = Book(["x", "y", "z"])
        found = told_words(book, "zxy", 6)
        self.assertEqual(len(found), sum(3 ** size for size in range(1, 7)))
        self.assertEqual(found, sorted(found, key=lambda word: (len(word), word)))
        self.assertEqual(told_words(book, "z", 1), ["z"])
        self.assertEqual(told_words(book, "a", 6), [])
        self.assertEqual(told_words(Book([]), "abc", 6), [])

    def test_letters(self):
        book = Book(["a"])
        for letters in strange_things() + ["abcd", "aa", "aba", "aab", "abb", "", "A", "a1", "a ", ["a", "b"], ("a",), "ab\n"]:
            for most in (1, 0, None):
                kind, value = caught(told_words, book, letters, most)
                self.assertIs(kind, BadLetters)
                self.assertIs(value, letters)

    def test_most(self):
        for most in strange_things() + [7, 8, -6, 1.0, "3"]:
            if type(most) is int and 1 <= most <= 6:
                continue
            kind, value = caught(told_words, Book(["a"]), "ba", most)
            self.assertIs(kind, BadMost)
            self.assertIs(value, most)

    def test_words_are_asked_by_is_told(self):
        self.assertEqual(caught(is_told, Book(["a"]), ""), (BadWord, ""))
        self.assertNotIn("", told_words(Book(["a"]), "a", 6))


if __name__ == "__main__":
    unittest.main()
