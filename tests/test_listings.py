import unittest
from random import Random

from tests.support import (
    NAMES, caught, good_tables, order_of_words, random_web, renamed, chain_tables, strange_things, told, words_of,
)
from watchedways.books import Book
from watchedways.errors import BadBook, BadText, BadWatches, BadWeb
from watchedways.lengths import Lengths
from watchedways.listings import read_book, read_web, write_book, write_web
from watchedways.making import lots, widths, yes_no
from watchedways.numbers import Numbers
from watchedways.speaking import Tongues
from watchedways.webs import Web

SMALL = "widths 12\nplace a\nplace bc\nroad a x bc 10\nroad bc y a 3"


def rows_of(web):
    """The rows as [31] tells them."""
    if web.reckoning == Lengths():
        rows = ["lengths"]
    else:
        most = web.reckoning.one
        rows = ["yes_no" if most == 1 else "widths " + str(most)]
    rows += ["place " + place for place in web.places]
    return rows + [" ".join(["road", one, letter, other, str(worth)]) for one, letter, other, worth in web.roads]


def is_number(text):
    return text.isascii() and text.isdigit() and len(text) <= 200 and str(int(text)) == text


def is_name_of(most, text):
    return 1 <= len(text) <= most and all("a" <= sign <= "z" for sign in text)


def reading(text):
    """What reading the text comes to, worked out by the words of [31]: an error, or the parts of a web."""
    rows = text.split("\n")
    heads = {"yes_no": 1, "lengths": None, **{f"widths {most}": most for most in range(1, 16)}}
    if rows[0] not in heads:
        return BadText, 0
    most, places, roads = heads[rows[0]], [], []
    for at in range(1, len(rows)):
        word, _, rest = rows[at].partition(" ")
        if word == "place" and not roads and is_name_of(8, rest):
            places.append(rest)
            continue
        parts = rest.split(" ")
        if word != "road" or len(parts) != 4 or not is_number(parts[3]):
            return BadText, at
        if not is_name_of(8, parts[0]) or not is_name_of(1, parts[1]) or not is_name_of(8, parts[2]):
            return BadText, at
        roads.append((parts[0], parts[1], parts[2], int(parts[3])))
    if not 1 <= len(places) <= 10:
        return BadWeb, ("places", -1)
    for at, place in enumerate(places):
        if place in places[:at]:
            return BadWeb, ("places", at)
    if len(roads) > 80:
        return BadWeb, ("roads", -1)
    for at, (one, letter, other, worth) in enumerate(roads):
        if one not in places or other not in places or any(road[:3] == (one, letter, other) for road in roads[:at]):
            return BadWeb, ("roads", at)
        if most is not None and not 1 <= worth <= most:
            return BadWeb, ("roads", at)
    return None, (most, tuple(places), tuple(roads))


def read(text):
    """What reading the text comes to, in the same form."""
    kind, found = caught(read_web, text)
    if kind is not None:
        return kind, found
    most = None if found.reckoning == Lengths() else found.reckoning.one
    if most is not None and found.reckoning != widths(most):
        raise AssertionError(text)
    return kind, (most, found.places, found.roads)


def some_webs():
    chance = Random(311)
    for reckoning in [yes_no(), Lengths()] + [widths(most) for most in range(1, 16)]:
        for _ in range(4):
            yield random_web(chance, reckoning, chance.randint(1, 10), "abz"[:chance.randint(1, 3)], chance.choice([0, 3, 80]))


class Webs(unittest.TestCase):
    def test_ordinary(self):
        roads = [("a", "x", "b", 12), ("b", "y", "b", 1)]
        self.assertEqual(write_web(Web(widths(12), ["b", "a"], roads)), "widths 12\nplace b\nplace a\nroad a x b 12\nroad b y b 1")
        self.assertEqual(write_web(Web(yes_no(), ["b"], [("b", "y", "b", 1)])), "yes_no\nplace b\nroad b y b 1")
        self.assertEqual(write_web(Web(widths(1), ["b"], [])), "yes_no\nplace b")
        self.assertEqual(write_web(Web(Lengths(), ["b"], [("b", "y", "b", 0)])), "lengths\nplace b\nroad b y b 0")

    def test_there_and_back(self):
        for web in some_webs():
            text = write_web(web)
            self.assertEqual(text, "\n".join(rows_of(web)))
            back = read_web(text)
            self.assertEqual(back, web)
            self.assertEqual((back.places, back.roads), (web.places, web.roads))
            self.assertEqual(write_web(back), text)

    def test_equal_reckonings_are_written(self):
        two = lots([[0]], 0)
        self.assertEqual(two, yes_no())
        self.assertEqual(write_web(Web(two, ["a"], [("a", "b", "a", 1)])), "yes_no\nplace a\nroad a b a 1")

    def test_what_is_not_written(self):
        reckonings = [told(tables) for tables in good_tables()] + [told(renamed(chain_tables(3), [1, 0, 2]))]
        reckonings = [made for made in reckonings if made != widths(len(made.joins) - 1)] + [Numbers(), Tongues("01")]
        self.assertGreater(len(reckonings), 10)
        for thing in [Web(made, ["a"], []) for made in reckonings] + strange_things():
            if isinstance(thing, Web) and thing.reckoning == Lengths():
                continue
            kind, value = caught(write_web, thing)
            self.assertIs(kind, BadWeb)
            self.assertIs(value, thing)

    def test_two_hundred_digits(self):
        for worth in (10 ** 199, 10 ** 200 - 1):
            web = Web(Lengths(), ["a"], [("a", "b", "a", worth)])
            self.assertEqual(write_web(web), f"lengths\nplace a\nroad a b a {worth}")
            self.assertEqual(read_web(write_web(web)), web)
        for worth in (10 ** 200, 10 ** 200 + 1, 10 ** 5000):
            web = Web(Lengths(), ["a"], [("a", "x", "a", 1), ("a", "b", "a", worth)])
            kind, value = caught(write_web, web)
            self.assertIs(kind, BadWeb)
            self.assertIs(value, web)
        text = "lengths\nplace a\nroad a x a 1\nroad a b a "
        self.assertEqual(caught(read_web, text + "1" * 201), (BadText, 3))
        self.assertEqual(caught(read_web, text + "0" * 200), (BadText, 3))
        self.assertEqual(read_web(text + "9" * 200).worth("a", "b", "a"), 10 ** 200 - 1)
        self.assertEqual(caught(read_web, f"widths 15\nplace a\nroad a b a {10 ** 199}"), (BadWeb, ("roads", 0)))

    def test_heads(self):
        for most in range(1, 16):
            self.assertEqual(read_web(f"widths {most}\nplace a"), Web(widths(most), ["a"], []))
        self.assertEqual(read_web("yes_no\nplace a"), Web(yes_no(), ["a"], []))
        self.assertEqual(read_web("lengths\nplace a"), Web(Lengths(), ["a"], []))
        for head in ("", "widths", "widths ", "widths 0", "widths 16", "widths 03", "widths +3", "widths  3", "widths 3 ", " widths 3",
                     "Widths 3", "widths 3.0", "widths -1", "widths three", "yes no", "yes_no ", "yesno", "lengths 1", "length",
                     "numbers", "place a", "road a b a 1", "widths 1_0", "widths 111", "yes_no 1", "lengths "):
            self.assertEqual(caught(read_web, head + "\nplace a"), (BadText, 0))
            self.assertEqual(caught(read_web, head), (BadText, 0))
            self.assertEqual(caught(read_web, head + "\nx"), (BadText, 0))

    def test_no_string(self):
        for thing in strange_things() + [b"lengths", ["lengths"]]:
            wanted = (BadText, 0) if isinstance(thing, str) else (BadText, -1)
            self.assertEqual(caught(read_web, thing), wanted)

    def test_wrong_rows(self):
        good = ["lengths", "place a", "place b", "road a x b 3", "road b x b 0"]
        wrong = [
            "", " ", "place", "place ", "place A", "place abcdefghi", "place a b", " place a", "place  a", "place a ", "Place a",
            "road a x b", "road a x b 3 4", "road a x b ", "road a xy b 3", "road a  b 3", "road A x b 3", "road a x abcdefghi 3",
            "road a x b 03", "road a x b 00", "road a x b +3", "road a x b -3", "road a x b 3.", "road a x b None", "road  a x b 3",
            "road a x b 3 ", " road a x b 3", "road a x b  3", "road a 1 b 3", "road a X b 3", "Road a x b 3", "lengths", "yes_no",
            "road a x b 1_0", "a x b 3", "road", "road abcdefghi x a 3", "road a x b 1e3", "placea", "road a\tx b 3",
        ]
        for row in wrong:
            for at in range(1, 6):
                rows = good[:at] + [row] + good[at:]
                self.assertEqual(caught(read_web, "\n".join(rows)), (BadText, at), row)
                self.assertEqual(caught(read_web, "\n".join(rows + ["?"])), (BadText, at), row)
        self.assertEqual(caught(read_web, "\n".join(good) + "\n"), (BadText, 5))
        self.assertEqual(caught(read_web, "\n" + "\n".join(good)), (BadText, 0))
        self.assertEqual(caught(read_web, "\n".join(good[:4] + ["place c"] + good[4:])), (BadText, 4))
        self.assertEqual(caught(read_web, "\n".join(good + ["place c"])), (BadText, 5))

    def test_rows_that_make_no_web(self):
        self.assertEqual(caught(read_web, "lengths"), (BadWeb, ("places", -1)))
        self.assertEqual(caught(read_web, "lengths\nroad a x a 1"), (BadWeb, ("places", -1)))
        self.assertEqual(caught(read_web, "lengths\nplace a\nplace b\nplace a"), (BadWeb, ("places", 2)))
        self.assertEqual(caught(read_web, "lengths\nplace a\nroad a x b 1"), (BadWeb, ("roads", 0)))
        self.assertEqual(caught(read_web, "lengths\nplace a\nroad a x a 1\nroad a x a 2"), (BadWeb, ("roads", 1)))
        self.assertEqual(caught(read_web, "yes_no\nplace a\nroad a x a 0"), (BadWeb, ("roads", 0)))
        self.assertEqual(caught(read_web, "yes_no\nplace a\nroad a x a 2"), (BadWeb, ("roads", 0)))
        self.assertEqual(caught(read_web, "widths 3\nplace a\nroad a x a 3\nroad a y a 4"), (BadWeb, ("roads", 1)))
        # A row that is not written so comes ahead of what makes no web.
        self.assertEqual(caught(read_web, "yes_no\nplace a\nplace a\nroad a x a 7\nroad a x a"), (BadText, 4))
        places = "\n".join("place " + name for name in NAMES + ["v"])
        self.assertEqual(caught(read_web, "lengths\n" + places), (BadWeb, ("places", -1)))
        roads = [f"road {one} {letter} {other} 1" for one in "abc" for letter in "abcdefghi" for other in "abc"]
        head = "lengths\nplace a\nplace b\nplace c\n"
        self.assertEqual(len(read_web(head + "\n".join(roads[:80])).roads), 80)
        self.assertEqual(caught(read_web, head + "\n".join(roads[:81])), (BadWeb, ("roads", -1)))
        self.assertEqual(caught(read_web, head + "\n".join(roads[:81] + ["road"])), (BadText, 85))

    def test_rows_moved(self):
        rows = SMALL.split("\n")
        texts = [rows[:at] + rows[at + 1:] for at in range(5)]
        texts += [rows[:at] + [rows[at]] + rows[at:] for at in range(5)]
        texts += [rows[:at] + [row] + rows[at:] for at in range(6) for row in rows + ["", "lengths", "place d", "road a z a 9"]]
        for at in range(5):
            for other in range(at):
                moved = list(rows)
                moved[at], moved[other] = moved[other], moved[at]
                texts.append(moved)
        self.assert_all_read(["\n".join(text) for text in texts])

    def test_one_sign_more_less_or_another(self):
        signs = "abxy019 \n_A-"
        texts = [SMALL[:at] + SMALL[at + 1:] for at in range(len(SMALL))]
        texts += [SMALL[:at] + sign + SMALL[at:] for at in range(len(SMALL) + 1) for sign in signs]
        texts += [SMALL[:at] + sign + SMALL[at + 1:] for at in range(len(SMALL)) for sign in signs]
        self.assert_all_read(texts)

    def assert_all_read(self, texts):
        kinds = {}
        for text in texts:
            wanted = reading(text)
            kinds[wanted[0]] = True
            self.assertEqual(read(text), wanted, text)
        self.assertEqual(len(kinds), 3)


class Books(unittest.TestCase):
    def test_ordinary(self):
        self.assertEqual(write_book(Book(["b", "aa", "a", "ab", "c"])), "a\nb\nc\naa\nab")
        self.assertEqual(write_book(Book([])), "")
        self.assertEqual(read_book("b\naa").watches, ("b", "aa"))
        self.assertEqual(read_book("").watches, ())

    def test_there_and_back(self):
        chance = Random(312)
        pieces = words_of("abc", 3) + ["a" * 12]
        for _ in range(100):
            watches = chance.sample(pieces, chance.randint(0, 12))
            text = write_book(Book(watches))
            self.assertEqual(text, "\n".join(sorted(watches, key=order_of_words)))
            self.assertEqual(read_book(text), Book(watches))
            self.assertEqual(read_book("\n".join(watches)).watches, tuple(watches))

    def test_no_book(self):
        for thing in strange_things():
            if not isinstance(thing, Book):
                kind, value = caught(write_book, thing)
                self.assertIs(kind, BadBook)
                self.assertIs(value, thing)

    def test_no_string(self):
        for thing in strange_things() + [b"a", ["a", "b"]]:
            if not isinstance(thing, str):
                self.assertEqual(caught(read_book, thing), (BadText, -1))

    def test_wrong_rows(self):
        good = ["a", "ab", "b"]
        for row in ("", " ", "A", "a ", " a", "a" * 13, "a b", "1", "a\tb", "place a"):
            for at in range(4):
                rows = good[:at] + [row] + good[at:]
                self.assertEqual(caught(read_book, "\n".join(rows)), (BadWatches, at))
                self.assertEqual(caught(read_book, "\n".join(rows + ["?"])), (BadWatches, at))
        for at, row in ((1, "a"), (2, "a"), (3, "b"), (2, "ab")):
            self.assertEqual(caught(read_book, "\n".join(good[:at] + [row] + good[at:])), (BadWatches, at))
        self.assertEqual(caught(read_book, "\n"), (BadWatches, 0))
        self.assertEqual(caught(read_book, "a\n"), (BadWatches, 1))
        self.assertEqual(caught(read_book, "\na"), (BadWatches, 0))

    def test_twelve_and_thirteen_rows(self):
        rows = ["a" * size for size in range(1, 13)]
        self.assertEqual(read_book("\n".join(rows)).watches, tuple(rows))
        self.assertEqual(caught(read_book, "\n".join(rows + ["b"])), (BadWatches, -1))
        self.assertEqual(caught(read_book, "\n".join(["?"] + rows)), (BadWatches, -1))
        self.assertEqual(caught(read_book, "\n".join(rows) + "\n"), (BadWatches, -1))
        self.assertEqual(caught(read_book, "\n" * 12), (BadWatches, -1))
        self.assertEqual(caught(read_book, "\n" * 11), (BadWatches, 0))

    def test_one_sign_more_less_or_another(self):
        text = "b\nab\naab"
        texts = [text[:at] + text[at + 1:] for at in range(len(text))]
        texts += [text[:at] + sign + text[at + more:] for at in range(len(text) + 1) for sign in "ab\n A" for more in (0, 1)]
        for given in texts:
            rows = given.split("\n")
            wrong = [
                at for at, row in enumerate(rows)
                if not is_name_of(12, row) or row in rows[:at]
            ]
            wanted = (BadWatches, wrong[0]) if wrong else (None, Book(rows))
            self.assertEqual(caught(read_book, given), wanted)


if __name__ == "__main__":
    unittest.main()
