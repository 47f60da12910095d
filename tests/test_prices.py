import unittest
from random import Random

from tests.support import (
    LONG_BOOKS, all_cuts, caught, order_of_words, piece_is_watch, reaches, strange_things, sub_lots, words_of,
)
from watchedways.books import Book
from watchedways.cuts import is_cut
from watchedways.errors import BadBook, BadOffers, BadPrice, BadWord
from watchedways.prices import bars, cheapest, is_bars

PIECES = words_of("ab", 3) + ["aaaa", "abab", "c"]


def cases():
    """Watches, a word and offers, few prices, so that many tie; some offers are watches already."""
    chance = Random(251)
    for at in range(150):
        watches = chance.sample(PIECES, chance.randint(0, 3))
        word = "".join(chance.choice(PIECES[:10]) for _ in range(chance.randint(1, 3)))
        pieces = sorted({word[i:j] for i in range(len(word)) for j in range(i + 1, len(word) + 1)} | {"ccc"})
        lot = chance.sample(pieces, min(len(pieces), chance.randint(0, 6)))
        if watches and at % 3 == 0:
            lot = [watches[0]] + [other for other in lot if other != watches[0]]
        yield watches, word, {watch: chance.choice([1, 1, 2, 3, 5, 10 ** 9]) for watch in lot}


def price_of(offers, lot):
    return sum(offers[watch] for watch in lot)


def all_lots(offers):
    """All lots of offers, fewer ones first, then the least first."""
    return sub_lots(sorted(offers, key=order_of_words))


def by_trying(watches, word, offers):
    """The price and the lot, by trying all lots; or None."""
    able = [lot for lot in all_lots(offers) if reaches([*watches, *lot], word)]
    # Sorting leaves those of one price in the order in which they stand.
    return min([(price_of(offers, lot), at) for at, lot in enumerate(able)], default=None), able


def crossing(word, watch, cut):
    """Whether the watch crosses the cut, as [25] tells it."""
    spots = range(len(word) + 1)
    return any(
        piece_is_watch([watch], word, one, other)
        for one in spots for other in spots if one in cut and other not in cut
    )


def are_bars(watches, word, offers, price, thing):
    """Whether they are bars, in the words of [25]."""
    if not all(cut in all_cuts(watches, word) for cut in thing):
        return False
    return all(
        any(not any(crossing(word, watch, cut) for watch in lot) for cut in thing)
        for lot in all_lots(offers) if price_of(offers, lot) < price
    )


class Cheapest(unittest.TestCase):
    def test_ordinary(self):
        book = Book(["a"])
        self.assertEqual(cheapest(book, "aabb", {"abb": 4, "b": 3, "bb": 3}), (3, ("b",)))
        self.assertEqual(cheapest(book, "aabb", {"abb": 2, "b": 3, "bb": 3}), (2, ("abb",)))
        self.assertEqual(cheapest(book, "bc", {"c": 1, "b": 1, "bc": 2}), (2, ("bc",)))
        self.assertEqual(cheapest(book, "bc", {"c": 1, "b": 1, "bc": 3}), (2, ("b", "c")))
        self.assertEqual(cheapest(book, "aaa", {"aa": 1}), (0, ()))
        self.assertIsNone(cheapest(book, "b", {"aa": 1, "bb": 1}))
        self.assertIsNone(cheapest(book, "b", {}))

    def test_shorter_watches_are_less(self):
        self.assertEqual(cheapest(Book([]), "cc", {"cc": 2, "c": 2}), (2, ("c",)))
        self.assertEqual(cheapest(Book([]), "abab", {"abab": 7, "ab": 7}), (7, ("ab",)))
        self.assertEqual(cheapest(Book([]), "abc", {"ab": 1, "c": 1, "bc": 1, "a": 1}), (2, ("a", "bc")))

    def test_against_trying_all_lots(self):
        answers = {}
        for watches, word, offers in cases():
            (best, able) = by_trying(watches, word, offers)
            wanted = None if best is None else (best[0], able[best[1]])
            for book in (Book(watches), Book(watches[::-1])):
                turned = {watch: offers[watch] for watch in reversed(list(offers))}
                for given in (offers, turned):
                    self.assertEqual(cheapest(book, word, given), wanted)
            answers[wanted and len(wanted[1])] = answers.get(wanted and len(wanted[1]), 0) + 1
        for many in (None, 0, 1, 2):
            self.assertGreater(answers[many], 10)

    def test_offers_that_the_book_has(self):
        self.assertEqual(cheapest(Book(["a", "b"]), "abc", {"b": 1, "a": 1, "c": 9}), (9, ("c",)))
        self.assertEqual(cheapest(Book(["a", "b"]), "ab", {"b": 1, "a": 1}), (0, ()))

    def test_a_full_book(self):
        full = Book(LONG_BOOKS[5])
        offers = {letter: at + 1 for at, letter in enumerate("zyxwvuts")}
        self.assertEqual(cheapest(full, "abztst", offers), (16, ("s", "t", "z")))
        self.assertEqual(cheapest(full, "ab", offers), (0, ()))
        self.assertIsNone(cheapest(full, "abd", offers))

    def test_high_prices(self):
        offers = {letter: 10 ** 9 for letter in "abcdefgh"}
        self.assertEqual(cheapest(Book([]), "abcdefgh", offers), (8 * 10 ** 9, tuple("abcdefgh")))


class Bars(unittest.TestCase):
    def test_against_is_bars_and_the_words(self):
        many = {}
        for watches, word, offers in cases():
            book = Book(watches)
            best, found = cheapest(book, word, offers), bars(book, word, offers)
            if best is None:
                self.assertIsNone(found)
                continue
            self.assertIs(type(found), tuple)
            self.assertIs(is_bars(book, word, offers, best[0], found), True)
            if len(word) <= 8:
                self.assertTrue(are_bars(watches, word, offers, best[0], found))
            many[len(found)] = many.get(len(found), 0) + 1
        self.assertGreater(many[0], 10)
        self.assertGreater(len(many), 3)

    def test_ordinary(self):
        book = Book(["a"])
        self.assertEqual(bars(book, "aa", {"b": 1}), ())
        self.assertEqual(bars(book, "ab", {"b": 3}), ((0, 1),))
        self.assertIsNone(bars(book, "ab", {"aa": 3}))
        found = bars(Book([]), "abc", {"a": 1, "b": 1, "c": 1})
        self.assertEqual(sorted(found), [(0,), (0, 1), (0, 1, 2)])

    def test_a_full_book(self):
        full = Book(LONG_BOOKS[5])
        offers = {letter: at + 1 for at, letter in enumerate("zyxwvuts")}
        found = bars(full, "abztst", offers)
        self.assertIs(is_bars(full, "abztst", offers, 16, found), True)
        self.assertIs(is_bars(full, "abztst", offers, 17, found), False)

    def test_no_greater_price(self):
        met = 0
        for watches, word, offers in cases():
            book = Book(watches)
            best = cheapest(book, word, offers)
            if best is not None:
                met += 1
                self.assertIs(is_bars(book, word, offers, best[0] + 1, bars(book, word, offers)), False)
                if best[0] > 0:
                    self.assertIs(is_bars(book, word, offers, best[0] - 1, bars(book, word, offers)), True)
        self.assertGreater(met, 60)

    def test_any_lots_of_cuts(self):
        chance = Random(252)
        answers = {True: 0, False: 0}
        for watches, word, offers in cases():
            if len(word) > 5:
                continue
            cuts, wrong = all_cuts(watches, word), [(), (0, len(word)), (1,), (0, 0)]
            for _ in range(12):
                thing = tuple(chance.sample(cuts, min(len(cuts), chance.randint(0, 3))))
                if chance.random() < 0.2:
                    thing += (chance.choice(wrong),)
                price = chance.choice([0, 1, 2, 3, 4, 6, 10 ** 10])
                wanted = are_bars(watches, word, offers, price, thing)
                answers[wanted] += 1
                self.assertIs(is_bars(Book(watches), word, offers, price, thing), wanted)
                self.assertIs(is_bars(Book(watches), word, offers, price, thing + thing), wanted)
        self.assertGreater(min(answers.values()), 100)

    def test_cuts_left_out_or_changed(self):
        book, offers = Book([]), {"a": 1, "b": 1, "c": 1}
        good = ((0,), (0, 1), (0, 1, 2))
        self.assertIs(is_bars(book, "abc", offers, 3, good), True)
        self.assertIs(is_bars(book, "abc", offers, 3, good[::-1] + good), True)
        for at in range(3):
            self.assertIs(is_bars(book, "abc", offers, 3, good[:at] + good[at + 1:]), False)
            for wrong in ((), (0, 3), (0, 1, 2, 3), (1,), [0], [0, 1], (0, True), (False,), (0, 2, 1), (0, 0), 0, None, "a"):
                self.assertIs(is_bars(book, "abc", offers, 3, good[:at] + (wrong,) + good[at + 1:]), False)
                self.assertIs(is_bars(book, "abc", offers, 0, good[:at] + (wrong,) + good[at:]), False)
        self.assertIs(is_bars(book, "abc", offers, 3, list(good)), False)
        self.assertIs(is_bars(Book(["ab"]), "abc", offers, 1, ((0, 2),)), True)
        self.assertIs(is_bars(Book(["ab"]), "abc", offers, 1, ((0,),)), False)

    def test_price_of_nothing(self):
        book = Book(["a"])
        for thing in ((), ((0, 1),), ((0, 1), (0, 1))):
            self.assertIs(is_bars(book, "ab", {}, 0, thing), True)
        self.assertIs(is_bars(book, "ab", {}, 1, ()), False)
        self.assertIs(is_bars(book, "ab", {}, 10 ** 40, ((0, 1),)), True)
        # A book that tells the word has no cuts at all.
        self.assertIs(is_bars(book, "aa", {}, 0, ()), True)
        self.assertIs(is_bars(book, "aa", {}, 0, ((0,),)), False)
        self.assertIs(is_bars(book, "aa", {}, 1, ()), False)

    def test_every_kind_of_value(self):
        self.assertIs(is_bars(Book(["a"]), "ab", {"b": 2}, 2, (0, 1)), False)
        for thing in strange_things() + [((0, 1), None), ([0, 1],), [(0, 1)], "((0, 1),)", {(0, 1): True}]:
            self.assertIs(is_bars(Book(["a"]), "ab", {"b": 2}, 2, thing), False)
            self.assertIs(is_bars(Book(["a"]), "ab", {"b": 2}, 0, thing), thing == ())
            self.assertIs(is_bars(Book(["a"]), "ab", {"b": 2}, 2, ((0, 1), thing)), False)
        self.assertIs(is_cut(Book(["a"]), "ab", (0, 1)), True)


class Errors(unittest.TestCase):
    def calls(self):
        return [cheapest, bars, lambda *given: is_bars(*given, None, None)]

    def test_books_and_words(self):
        for call in self.calls():
            for thing in strange_things():
                if not isinstance(thing, Book):
                    kind, value = caught(call, thing, None, None)
                    self.assertIs(kind, BadBook)
                    self.assertIs(value, thing)
                if thing != "a":
                    kind, value = caught(call, Book(["a"]), thing, None)
                    self.assertIs(kind, BadWord)
                    self.assertIs(value, thing)

    def test_offers(self):
        nine = {"a" * size: 1 for size in range(1, 10)}
        eight = {"a" * size: 1 for size in range(2, 10)}
        for call in self.calls():
            for thing in strange_things() + [[("a", 1)], nine, {**nine, None: 1}]:
                if not isinstance(thing, dict) or len(thing) > 8:
                    self.assertEqual(caught(call, Book(["a"]), "a", thing), (BadOffers, -1))
            for key in (None, True, 1, "", "A", "a" * 13, ("a",), ("a", 1), 10 ** 30):
                for at in range(3):
                    for rest in ([("a", 1), ("b", 2)], [("a", 10 ** 9), ("aa", 1)]):
                        offers = dict(rest[:at] + [(key, 1)] + rest[at:] + [("c", 0)])
                        kind, value = caught(call, Book(["a"]), "a", offers)
                        self.assertEqual((kind, value), (BadOffers, key))
                        self.assertIs(type(value), type(key))
            for price in strange_things() + [0, -1, 10 ** 9 + 1, True, 1.0, "1"]:
                if type(price) is int and 1 <= price <= 10 ** 9:
                    continue
                for at in range(3):
                    rest = [("a", 1), ("b", 2)]
                    offers = dict(rest[:at] + [("ab", price)] + rest[at:] + [("A", 1)])
                    self.assertEqual(caught(call, Book(["a"]), "a", offers), (BadOffers, "ab"))
        self.assertEqual(cheapest(Book(["a"]), "a", eight), (0, ()))
        self.assertEqual(bars(Book(["a"]), "a", eight), ())

    def test_price(self):
        for price in strange_things() + [-1, -10 ** 30, True, 0.0, "1"]:
            if type(price) is int and price >= 0:
                self.assertIs(caught(is_bars, Book(["a"]), "a", {}, price, None)[0], None)
                continue
            for offers in ({}, {"b": 1}):
                kind, value = caught(is_bars, Book(["a"]), "a", offers, price, ())
                self.assertIs(kind, BadPrice)
                self.assertIs(value, price)

    def test_nothing_is_changed(self):
        offers = {"b": 2, "a": 1}
        for call in (cheapest, bars):
            call(Book([]), "ab", offers)
        self.assertEqual(list(offers.items()), [("b", 2), ("a", 1)])


if __name__ == "__main__":
    unittest.main()
