import time
import unittest
from itertools import product
from random import Random

from tests.support import (
    LONG_BOOKS, LONG_WORDS, NO_RULES, all_zigzags, back, caught, on, small_cases, strange_things, turns_of, words_of,
)
from watchedways.books import Book
from watchedways.errors import BadBook, BadRule, BadRules, BadWord, BadZigzag, TooMany
from watchedways.rules import calm_rule, followed, is_rule, rule, rule_of, unfold
from watchedways.zigzags import calmest, zigzag


DOCUMENT_RULE = (on("aaaa"), back("aaa"), on("aaaa"))

EIGHTY = (on("a"),) + (on("a"), back("a")) * 39 + (on("a"),)


def spots_of(word, steps):
    """The spots of a rule, by comparing letters one by one; None if it does not follow the word."""
    spots = [0]
    for kind, watch in steps:
        way = 1 if kind == "on" else -1
        letters = watch if way == 1 else watch[::-1]
        here = spots[-1]
        for letter in letters:
            at = here if way == 1 else here - 1
            if not 0 <= at < len(word) or word[at] != letter:
                return None
            here += way
        spots.append(here)
    return tuple(spots) if spots[-1] == len(word) else None


class Followed(unittest.TestCase):
    def test_ordinary(self):
        self.assertEqual(followed("aaaaa", DOCUMENT_RULE), (0, 4, 1, 5))
        self.assertEqual(followed("abc", (on("abc"),)), (0, 3))
        self.assertEqual(followed("abc", (on("ab"), on("c"))), (0, 2, 3))
        self.assertEqual(followed("a" * 40, (on("a" * 12), on("a" * 12), on("a" * 12), on("aaaa"))), (0, 12, 24, 36, 40))

    def test_a_spot_twice(self):
        self.assertEqual(followed("ab", (on("ab"), back("ab"), on("ab"))), (0, 2, 0, 2))
        self.assertEqual(followed("a", (on("a"), back("a"), on("a"), back("a"), on("a"))), (0, 1, 0, 1, 0, 1))
        self.assertEqual(followed("ab", (on("a"), on("b"), back("b"), on("b"))), (0, 1, 2, 1, 2))

    def test_not_followed(self):
        for word, steps in (
            ("ab", (on("a"),)), ("ab", (on("b"),)), ("ab", (on("abc"),)), ("ab", (on("ba"),)), ("a", (on("aa"),)),
            ("ab", (on("a"), on("a"))), ("ab", (on("ab"), on("b"))), ("ab", (on("ab"), back("b"), on("ab"))),
            ("ab", (on("ab"), back("a"), on("a"))), ("aaaaa", DOCUMENT_RULE[:1]), ("aaaa", DOCUMENT_RULE),
            ("aaaaaa", DOCUMENT_RULE),
        ):
            self.assertIsNone(followed(word, steps))

    def test_ahead_of_the_begin(self):
        # Ahead of the begin there is nothing, also where Python would count from the end.
        self.assertIsNone(followed("aab", (on("a"), back("aab"), on("b"))))
        self.assertIsNone(followed("aaaa", (on("a"), back("aa"), on("aaaa"))))
        self.assertIsNone(followed("aaa", (on("a"), back("aaa"), on("aaa"), on("aa"))))
        self.assertIsNone(followed("ba", (on("b"), back("ab"), on("a"))))
        self.assertIsNone(followed("abab", (on("ab"), back("bab"), on("ab"))))

    def test_small_rules(self):
        steps = [(kind, watch) for kind in ("on", "back") for watch in ("a", "b", "ab", "ba", "aa")]
        found = 0
        for many in (1, 2, 3, 4):
            for made in product(steps, repeat=many):
                if made[0][0] == made[-1][0] == "on":
                    for word in ("a", "ab", "aab", "aba"):
                        answer = followed(word, made)
                        self.assertEqual(answer, spots_of(word, made))
                        found += answer is not None
        self.assertGreater(found, 30)

    def test_sizes(self):
        self.assertEqual(len(EIGHTY), 80)
        self.assertEqual(followed("aa", EIGHTY), (0, 1) + (2, 1) * 39 + (2,))
        self.assertEqual(followed("a" * 40, (on("a"),) * 40), tuple(range(41)))
        self.assertIsNone(followed("a" * 40, (on("a"),) * 80))
        eighty_one = (on("a"),) + (back("a"), on("a")) * 40
        self.assertEqual(caught(followed, "a", eighty_one), (BadRule, eighty_one))
        self.assertEqual(followed("a", eighty_one[:79]), (0, 1) * 40)

    def test_errors(self):
        for wrong in strange_things() + ["a" * 41]:
            kind, value = caught(followed, wrong, None)
            self.assertIs(kind, BadWord)
            self.assertIs(value, wrong)
        for wrong in strange_things() + NO_RULES + ["a"]:
            kind, value = caught(followed, "a", wrong)
            self.assertIs(kind, BadRule)
            self.assertIs(value, wrong)


class RulesOfZigzags(unittest.TestCase):
    def test_ordinary(self):
        book = Book(["aaaa", "aaa"])
        self.assertEqual(rule_of(book, "aaaaa", (0, 4, 1, 5)), DOCUMENT_RULE)
        self.assertEqual(rule(book, "aaaaa"), DOCUMENT_RULE)
        self.assertEqual(calm_rule(book, "aaaaa"), DOCUMENT_RULE)
        book = Book(["abcde", "e", "efgh", "a", "b", "c", "d"])
        self.assertEqual(rule(book, "abcdefgh"), (on("abcde"), back("e"), on("efgh")))
        self.assertEqual(calm_rule(book, "abcdefgh"), (on("a"), on("b"), on("c"), on("d"), on("efgh")))
        self.assertEqual(rule_of(book, "abcdefgh", (0, 5, 4, 8)), rule(book, "abcdefgh"))

    def test_small_words(self):
        for watches, word in small_cases():
            book, ways = Book(watches), all_zigzags(watches, word)
            for way in ways[:20]:
                made = rule_of(book, word, way)
                self.assertEqual(len(made), len(way) - 1)
                self.assertEqual(spots_of(word, made), way)
                self.assertTrue(all(watch in watches for _, watch in made))
            if not ways:
                self.assertIsNone(rule(book, word))
                self.assertIsNone(calm_rule(book, word))
            else:
                self.assertEqual(spots_of(word, rule(book, word)), zigzag(book, word))
                best = min(ways, key=lambda way: (turns_of(way), len(way), way))
                self.assertEqual(spots_of(word, calm_rule(book, word)), best)

    def test_long_words(self):
        for word in LONG_WORDS:
            for watches in LONG_BOOKS:
                book = Book(watches)
                begin = time.perf_counter()
                for made, way in ((rule(book, word), zigzag(book, word)), (calm_rule(book, word), calmest(book, word))):
                    self.assertEqual(made if way is None else followed(word, made), way)
                    self.assertIs(is_rule(book, word, made), made is not None)
                self.assertLess(time.perf_counter() - begin, 1)

    def test_the_same_for_another_order(self):
        for watches, word in small_cases()[::5]:
            self.assertEqual(rule(Book(watches), word), rule(Book(watches[::-1]), word))
            self.assertEqual(calm_rule(Book(watches), word), calm_rule(Book(watches[::-1]), word))

    def test_wrong_zigzags(self):
        book = Book(["a", "aa"])
        for wrong in strange_things() + [(), (0,), (0, 1), (0, 2, 1), [0, 1, 2, 3], (0, 1, 3, 1), (0, 3), (0, 1, 2, 1, 3),
                                         (False, 1, 2, 3), (0, True, 2, 3), (1, 2, 3), (0, 2, 3, 4)]:
            kind, value = caught(rule_of, book, "aaa", wrong)
            self.assertIs(kind, BadZigzag)
            self.assertIs(value, wrong)

    def test_order_of_errors(self):
        for call in (rule, calm_rule, lambda book, word: rule_of(book, word, None),
                     lambda book, word: is_rule(book, word, None)):
            for wrong in strange_things() + ["a" * 41]:
                if not isinstance(wrong, Book):
                    self.assertIs(caught(call, wrong, None)[0], BadBook)
                    self.assertIs(caught(call, wrong, "a")[1], wrong)
                kind, value = caught(call, Book(["a"]), wrong)
                self.assertIs(kind, BadWord)
                self.assertIs(value, wrong)


class RulesJudged(unittest.TestCase):
    def test_followed_and_watched(self):
        book = Book(["aaaa", "aaa", "b"])
        self.assertIs(is_rule(book, "aaaaa", DOCUMENT_RULE), True)
        self.assertIs(is_rule(book, "aaaaaa", DOCUMENT_RULE), False)
        self.assertIs(is_rule(book, "aaaaa", (on("aaaa"), on("a"))), False)
        self.assertIs(is_rule(book.with_watch("a"), "aaaaa", (on("aaaa"), on("a"))), True)
        self.assertIs(is_rule(book.without_watch("aaa"), "aaaaa", DOCUMENT_RULE), False)
        self.assertIs(is_rule(book, "aaaaa", (on("aaaa"), back("aaa"), on("aaa"), back("aaa"), on("aaaa"))), True)

    def test_sizes(self):
        self.assertIs(is_rule(Book(["a"]), "aa", EIGHTY), True)
        self.assertIs(is_rule(Book(["a"]), "a", (on("a"),) + (back("a"), on("a")) * 40), False)
        self.assertIs(is_rule(Book(["a"]), "a", (on("a"),)), True)

    def test_things_of_every_kind(self):
        for thing in strange_things() + NO_RULES:
            for word in ("a", "aa", "ab", "a" * 40):
                self.assertIs(is_rule(Book(["a"]), word, thing), False)

    def test_small_rules(self):
        book = Book(["a", "ab", "ba"])
        steps = [(kind, watch) for kind in ("on", "back") for watch in ("a", "b", "ab", "ba")]
        for word in words_of("ab", 3):
            for made in product(steps, repeat=3):
                good = made[0][0] == made[2][0] == "on" and spots_of(word, made) is not None
                good = good and all(watch != "b" for _, watch in made)
                self.assertIs(is_rule(book, word, made), good)


class Unfolded(unittest.TestCase):
    def test_on(self):
        rules = {"ab": (on("a"), on("b"))}
        self.assertEqual(unfold((on("ab"),), rules), (on("a"), on("b")))
        self.assertEqual(unfold((on("c"), on("ab"), on("d")), rules), (on("c"), on("a"), on("b"), on("d")))

    def test_back(self):
        rules = {"aab": (on("aa"), back("a"), on("ab"))}
        self.assertEqual(
            unfold((on("aab"), back("aab"), on("aab")), rules),
            (on("aa"), back("a"), on("ab"), back("ab"), on("a"), back("aa"), on("aa"), back("a"), on("ab")))

    def test_not_unfolded_again(self):
        rules = {"ab": (on("a"), on("b")), "a": (on("a"), back("a"), on("a")), "abc": (on("ab"), on("c"))}
        self.assertEqual(unfold((on("abc"),), rules), (on("ab"), on("c")))
        self.assertEqual(unfold((on("a"), on("ab")), rules), (on("a"), back("a"), on("a"), on("a"), on("b")))

    def test_without_rules(self):
        self.assertEqual(unfold(DOCUMENT_RULE, {}), DOCUMENT_RULE)
        self.assertEqual(unfold(DOCUMENT_RULE, {"b": (on("b"),)}), DOCUMENT_RULE)
        self.assertEqual(unfold(EIGHTY, {}), EIGHTY)

    def test_what_follows_follows_unfolded(self):
        chance = Random(3)
        unfolded = 0
        for watches, word in small_cases():
            made = rule(Book(watches), word)
            if made is None:
                continue
            rules = {}
            for watch in watches:
                inner = Book([piece for piece in ("a", "b", "c", "ab", "aa", "aaa", "aaaa", "ba") if piece != watch])
                steps = (rule, calm_rule)[chance.randrange(2)](inner, watch)
                if steps is not None and chance.random() < 0.8:
                    rules[watch] = steps
            kept = {watch: rules[watch] for watch in rules}
            answer = unfold(made, rules)
            self.assertEqual(rules, kept)
            wanted = []
            for kind, watch in made:
                if watch in rules:
                    inner = rules[watch]
                    turned = [("on" if k == "back" else "back", w) for k, w in reversed(inner)]
                    wanted += list(inner) if kind == "on" else turned
                else:
                    wanted.append((kind, watch))
            self.assertEqual(answer, tuple(wanted))
            self.assertIsNotNone(followed(word, answer))
            unfolded += any(step[0] == "back" and step[1] in rules for step in made)
        self.assertGreater(unfolded, 5)

    def test_eighty_and_more(self):
        eight = (on("aa"), back("a"), on("a"), back("a"), on("a"), back("aa"), on("a"), on("a"))
        rules = {"aa": eight}
        ten = (on("aa"),) + (on("aa"), back("aa")) * 4 + (on("aa"),)
        self.assertEqual((len(eight), len(ten)), (8, 10))
        self.assertEqual(len(unfold(ten, rules)), 80)
        more = (on("a"),) + ten
        self.assertEqual(caught(unfold, more, rules), (TooMany, None))
        self.assertEqual(len(unfold((on("a"),) + ten[1:], rules)), 73)
        self.assertEqual(caught(unfold, EIGHTY, {"a": (on("a"), back("a"), on("a"))}), (TooMany, None))

    def test_wrong_rule(self):
        for wrong in strange_things() + NO_RULES:
            for rules in (None, {}, {1: 1}):
                kind, value = caught(unfold, wrong, rules)
                self.assertIs(kind, BadRule)
                self.assertIs(value, wrong)

    def test_no_dict(self):
        for wrong in strange_things() + [[("a", (on("a"),))], (on("a"),)]:
            if not isinstance(wrong, dict):
                self.assertEqual(caught(unfold, (on("a"),), wrong), (BadRules, -1))

    def test_wrong_keys(self):
        keys = [key for key in strange_things() if isinstance(key, (int, str, tuple, type(None)))]
        keys += ["a" * 13, "a" * 40, "A", (on("a"),)]
        for wrong in keys:
            try:
                rules = {"b": (on("b"),), wrong: (on("a"),), "": None}
            except TypeError:
                continue
            kind, value = caught(unfold, (on("c"),), rules)
            self.assertIs(kind, BadRules)
            self.assertEqual(value, wrong)

    def test_wrong_values(self):
        values = strange_things() + NO_RULES + [(on("b"),), (on("a"),), (on("ab"), on("a")), (on("ab"), back("ab"))]
        for wrong in values:
            for made in ((on("c"),), (on("ab"), on("c"))):
                rules = {"b": (on("b"),), "ab": wrong, "": None, "c": None}
                self.assertEqual(caught(unfold, made, rules), (BadRules, "ab"))

    def test_the_first_wrong_key_in_order(self):
        good = (on("a"),)
        self.assertEqual(caught(unfold, good, {"a": good, "b": good, 1: good}), (BadRules, "b"))
        self.assertEqual(caught(unfold, good, {"a": good, 1: good, "b": good}), (BadRules, 1))
        self.assertEqual(caught(unfold, EIGHTY, {"a": (on("a"), back("a"), on("a")), "b": None}), (BadRules, "b"))
        self.assertEqual(unfold(good, {"b": (on("b"),), "a": (on("a"), back("a"), on("a"))}), (on("a"), back("a"), on("a")))


if __name__ == "__main__":
    unittest.main()
