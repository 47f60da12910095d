import unittest
from fractions import Fraction
from itertools import product as pairs_of
from random import Random

from tests.support import (
    NAMES, caught, joined, joining_reckonings, kinds_of_reckonings, only_ratios, random_table, random_web,
    strange_things, words_of, worked_table,
)
from watchedways.books import Book
from watchedways.errors import BadBook, BadMany, BadReckoning, BadTable, BadWord, TooMany
from watchedways.lengths import Lengths
from watchedways.making import lots, widths, yes_no
from watchedways.numbers import Numbers
from watchedways.ratios import Ratio
from watchedways.reckonings import Reckoning
from watchedways.speaking import Tongues
from watchedways.tongues import Tongue, tongue_of
from watchedways.webs import Web, is_table, product

HALVES = Web(Numbers(), ["a", "b"], [("a", "x", "b", Ratio(1, 2)), ("b", "x", "a", -3), ("a", "y", "a", 2)])


def is_reckoning(thing):
    return isinstance(thing, (Reckoning, Lengths, Numbers, Tongues))


def worked_product(reckoning, one, other):
    many = range(len(one))
    return tuple(
        tuple(joined(reckoning, [reckoning.times(one[p][r], other[r][q]) for r in many]) for q in many) for p in many
    )


def unit_of(reckoning, many):
    return tuple(tuple(reckoning.one if p == q else reckoning.none for q in range(many)) for p in range(many))


class WordTables(unittest.TestCase):
    def test_summed_over_all_ways(self):
        chance = Random(41)
        for reckoning in kinds_of_reckonings():
            for places, roads in ((1, 2), (2, 5), (3, 7), (4, 8)):
                web = random_web(chance, reckoning, places, "xy", roads)
                for word in words_of("xy", 3) + ["xyxyx", "z", "xz", "xxxx"]:
                    table = web.table(word)
                    self.assertEqual(table, worked_table(web, word), word)
                    self.assertIs(type(table), tuple)
                    self.assertTrue(all(type(row) is tuple for row in table))
                    self.assertTrue(is_table(reckoning, places, table))

    def test_one_letter(self):
        chance = Random(42)
        for reckoning in kinds_of_reckonings():
            web = random_web(chance, reckoning, 4, "xy", 14)
            for letter in "xyz":
                wanted = tuple(tuple(web.worth(one, letter, other) for other in web.places) for one in web.places)
                self.assertEqual(web.table(letter), wanted)

    def test_empty_word(self):
        chance = Random(43)
        for reckoning in kinds_of_reckonings():
            for places in (1, 2, 5, 10):
                web = random_web(chance, reckoning, places, "x", 6)
                self.assertEqual(web.table(""), unit_of(reckoning, places))
        self.assertTrue(only_ratios(HALVES.table("")))

    def test_product_that_does_not_swap(self):
        products = lots([[0, 1, 2], [1, 1, 1], [2, 2, 2]], 0)
        web = Web(products, ["a", "b", "c"], [("a", "x", "b", 2), ("b", "y", "c", 4)])
        self.assertEqual(web.table("xy")[0][2], 2)
        web = Web(products, ["a", "b", "c"], [("a", "x", "b", 4), ("b", "y", "c", 2)])
        self.assertEqual(web.table("xy")[0][2], 4)
        tongues = Tongues("01")
        web = Web(tongues, ["a", "b"], [("a", "x", "b", tongue_of("01", ["0"])), ("b", "y", "a", tongue_of("01", ["1"]))])
        self.assertEqual(web.table("xyx")[0][1], tongue_of("01", ["010"]))
        self.assertEqual(web.table("xyx")[1][0], tongues.none)

    def test_ratios(self):
        table = HALVES.table("xx")
        self.assertTrue(only_ratios(table))
        self.assertEqual([[(item.top, item.bottom) for item in row] for row in table], [[(-3, 2), (0, 1)], [(0, 1), (-3, 2)]])
        self.assertTrue(only_ratios(HALVES.table("y")))
        self.assertEqual(HALVES.table("yx"), ((0, 1), (0, 0)))
        self.assertTrue(only_ratios(HALVES.table("z")))

    def test_long_ratios(self):
        chance = Random(44)
        names = NAMES[:4]
        fractions = {(one, letter, other): Fraction(chance.randint(-99, 99), chance.randint(1, 60))
                     for one, letter, other in pairs_of(names, "xy", names)}
        roads = [(*key, Ratio(worth.numerator, worth.denominator)) for key, worth in fractions.items() if worth]
        web = Web(Numbers(), names, roads)
        for word in ("xy" * 20, "xxy" * 13):
            rows = [[Fraction(p == q) for q in range(4)] for p in range(4)]
            for letter in word:
                rows = [[sum(row[r] * fractions[names[r], letter, names[q]] for r in range(4)) for q in range(4)]
                        for row in rows]
            table = web.table(word)
            self.assertTrue(only_ratios(table))
            self.assertEqual([[(item.top, item.bottom) for item in row] for row in table],
                             [[(item.numerator, item.denominator) for item in row] for row in rows])

    def test_words_of_40_letters(self):
        chance = Random(45)
        for reckoning in kinds_of_reckonings():
            if isinstance(reckoning, Tongues):
                continue
            web = random_web(chance, reckoning, 10, "xy", 80)
            for word in ("x" * 40, "xy" * 20, "xxyxy" * 8):
                rows = unit_of(reckoning, 10)
                for letter in word[:6]:
                    rows = worked_product(reckoning, rows, web.table(letter))
                self.assertEqual(web.table(word[:6]), rows)
                twice = product(reckoning, web.table(word[:23]), web.table(word[23:]))
                self.assertEqual(web.table(word), twice)

    def test_tongues_of_long_words(self):
        tongues, zero = Tongues("01"), tongue_of("01", ["0"])
        names = NAMES[:10]
        ring = [(names[at], "x", names[(at + 1) % 10], zero) for at in range(10)]
        table = Web(tongues, names, ring).table("x" * 40)
        wanted = tongues.one
        for _ in range(40):
            wanted = tongues.times(wanted, zero)
        for p, q in pairs_of(range(10), repeat=2):
            self.assertEqual(table[p][q], wanted if p == q else tongues.none)
        long = Tongue("01", [[at + 1] * 2 for at in range(7)] + [[7, 7]], [6])
        web = Web(tongues, ["a"], [("a", "x", "a", long)])
        self.assertEqual(len(web.table("x" * 33)[0][0].moves), 200)
        self.assertEqual(caught(web.table, "x" * 34), (TooMany, None))

    def test_many_states_on_the_way(self):
        # Only the tongues of the table that comes out must not have too many states.
        tongues, names = Tongues("01"), NAMES[:4]
        line = Tongue("01", [[at + 1] * 2 for at in range(151)] + [[151, 151]], [150])
        roads = [(names[0], "x", names[1], line), (names[1], "x", names[2], line), (names[3], "x", names[3], line)]
        web = Web(tongues, names, roads[:2])
        self.assertEqual(caught(web.table, "xx"), (TooMany, None))
        self.assertEqual(web.table("xxx"), tuple([(tongues.none,) * 4] * 4))
        self.assertEqual(web.tables(Book(["xxx", "x"]))["xxx"], web.table("xxxx"))
        self.assertEqual(caught(Web(tongues, names, roads).table, "xxx"), (TooMany, None))
        every = Tongue("01", [[0, 0]], [0])
        web = Web(tongues, ["p"], [("p", "x", "p", line), ("p", "y", "p", every)])
        self.assertEqual(len(web.table("xy")[0][0].moves), 151)
        self.assertEqual(caught(web.table, "xxy"), (TooMany, None))

    def test_lengths(self):
        web = Web(Lengths(), ["a", "b", "c"], [("a", "x", "b", 3), ("b", "x", "c", 4), ("a", "x", "a", 0), ("a", "x", "c", 9)])
        self.assertEqual(web.table("xx"), ((0, 3, 7), (None, None, None), (None, None, None)))
        self.assertEqual(web.table("xxx"), ((0, 3, 7), (None, None, None), (None, None, None)))

    def test_errors(self):
        for web in (HALVES, Web(Lengths(), ["a"], [])):
            for thing in strange_things() + ["a" * 41, "aA", "a ", "ä"]:
                if thing == "":
                    continue
                kind, value = caught(web.table, thing)
                self.assertIs(kind, BadWord)
                self.assertIs(value, thing)
            self.assertEqual(len(web.table("a" * 40)), len(web.places))


class BookTables(unittest.TestCase):
    def test_each_watch(self):
        chance = Random(46)
        book = Book(["xy", "x", "yxx", "x" * 12, "z"])
        for reckoning in kinds_of_reckonings():
            web = random_web(chance, reckoning, 3, "xy", 5)
            tables = web.tables(book)
            self.assertIs(type(tables), dict)
            self.assertEqual(sorted(tables), sorted(book.watches))
            for watch in book.watches:
                self.assertEqual(tables[watch], web.table(watch))
            tables.clear()
            self.assertEqual(len(web.tables(book)), 5)
            self.assertEqual(web.tables(Book([])), {})

    def test_errors(self):
        for thing in strange_things():
            if not isinstance(thing, Book):
                kind, value = caught(HALVES.tables, thing)
                self.assertIs(kind, BadBook)
                self.assertIs(value, thing)


class Products(unittest.TestCase):
    def test_against_the_words(self):
        chance = Random(47)
        for reckoning in kinds_of_reckonings():
            for many in (1, 2, 3, 4):
                one, other = random_table(chance, reckoning, many), random_table(chance, reckoning, many)
                made = product(reckoning, one, other)
                self.assertEqual(made, worked_product(reckoning, one, other))
                self.assertIs(type(made), tuple)
                self.assertTrue(all(type(row) is tuple for row in made))
                unit = unit_of(reckoning, many)
                self.assertEqual((product(reckoning, unit, one), product(reckoning, one, unit)), (one, one))

    def test_ten_places(self):
        chance = Random(48)
        for reckoning in kinds_of_reckonings()[:7]:
            one, other = random_table(chance, reckoning, 10), random_table(chance, reckoning, 10)
            self.assertEqual(product(reckoning, one, other), worked_product(reckoning, one, other))

    def test_integers_become_ratios(self):
        one, other = ((1, 0), (Ratio(1, 2), -2)), ((0, 1), (1, 0))
        for made in (product(Numbers(), one, other), product(Numbers(), other, one)):
            self.assertTrue(only_ratios(made))
        self.assertEqual(product(Numbers(), one, other), ((0, 1), (-2, Ratio(1, 2))))
        self.assertEqual(one, ((1, 0), (Ratio(1, 2), -2)))

    def test_wrong_reckoning(self):
        for thing in strange_things():
            if not is_reckoning(thing):
                for given in ((((0,),), ((0,),)), (None, None)):
                    kind, value = caught(product, thing, *given)
                    self.assertIs(kind, BadReckoning)
                    self.assertIs(value, thing)
                for many in (1, 0, None):
                    kind, value = caught(is_table, thing, many, ((0,),))
                    self.assertIs(kind, BadReckoning)
                    self.assertIs(value, thing)

    def test_wrong_tables(self):
        for reckoning in kinds_of_reckonings():
            good = unit_of(reckoning, 2)
            for wrong in wrong_tables(reckoning):
                for given in ((wrong, good), (wrong, None), (wrong, wrong)):
                    kind, value = caught(product, reckoning, *given)
                    self.assertIs(kind, BadTable)
                    self.assertIs(value, wrong)
                kind, value = caught(product, reckoning, good, wrong)
                self.assertIs(kind, BadTable)
                self.assertIs(value, wrong)

    def test_unlike_sizes(self):
        for reckoning in kinds_of_reckonings():
            for one, other in pairs_of((1, 2, 3, 10), repeat=2):
                first, second = unit_of(reckoning, one), unit_of(reckoning, other)
                kind, value = caught(product, reckoning, first, second)
                if one == other:
                    self.assertEqual((kind, value), (None, first))
                else:
                    self.assertIs(kind, BadTable)
                    self.assertIs(value, second)


def wrong_tables(reckoning):
    """Things that are no table of the reckoning of any number of places, and hold none."""
    one, none = reckoning.one, reckoning.none
    row = (one, none)
    found = [thing for thing in strange_things() if not isinstance(thing, tuple)]
    found += [(), ((),), (row,), (row, row, row), [row, row], ([one, none], row), (row, [one, none]), (row, (one,)),
              (row, (one, none, none)), ((one,), row), (row, None), (row, "ab"), (row, row, ()), {0: row, 1: row},
              tuple([tuple([one] * 11)] * 11), tuple([tuple([one] * 10)] * 11), tuple([tuple([one] * 11)] * 10)]
    for worth in strange_things() + [-1, 16, True, "0", 1.0, tongue_of("9", ["9"]), (one,)]:
        if not reckoning.is_worth(worth):
            found += [((worth, one), row), (row, (one, worth)), (row, (worth, none)), ((worth,),)]
    return found


class IsTable(unittest.TestCase):
    def test_good_ones(self):
        chance = Random(49)
        for reckoning in kinds_of_reckonings():
            for many in (1, 2, 3, 10):
                table = random_table(chance, reckoning, many)
                for size in range(1, 11):
                    self.assertIs(is_table(reckoning, size, table), size == many)
                self.assertIs(is_table(reckoning, many, list(table)), False)
                self.assertIs(is_table(reckoning, many, tuple(list(row) for row in table)), False)
                self.assertIs(is_table(reckoning, many, table[:-1] + (list(table[-1]),)), False)
                self.assertIs(is_table(reckoning, many, table[:-1] + (table[-1] + table[-1],)), False)
                self.assertIs(is_table(reckoning, many, table[:-1]), False)

    def test_wrong_ones(self):
        for reckoning in kinds_of_reckonings():
            for many in (1, 2, 3, 10):
                for thing in wrong_tables(reckoning) + strange_things():
                    self.assertIs(is_table(reckoning, many, thing), False, thing)

    def test_worths_of_another_reckoning(self):
        self.assertIs(is_table(yes_no(), 1, ((2,),)), False)
        self.assertIs(is_table(widths(2), 1, ((2,),)), True)
        self.assertIs(is_table(widths(2), 1, ((None,),)), False)
        self.assertIs(is_table(Lengths(), 1, ((None,),)), True)
        self.assertIs(is_table(Lengths(), 1, ((Ratio(1),),)), False)
        self.assertIs(is_table(Numbers(), 1, ((Ratio(-1),),)), True)
        self.assertIs(is_table(Numbers(), 2, ((Ratio(-1), -1), (10 ** 30, 0))), True)
        self.assertIs(is_table(Tongues("0"), 1, ((tongue_of("0", []),),)), True)
        self.assertIs(is_table(Tongues("0"), 1, ((tongue_of("1", []),),)), False)

    def test_many(self):
        for reckoning in (Lengths(), Numbers(), widths(3)):
            for many in strange_things() + [11, -1, 1.0, "2"]:
                if type(many) is int and 1 <= many <= 10:
                    continue
                for thing in (((0,),), None):
                    kind, value = caught(is_table, reckoning, many, thing)
                    self.assertIs(kind, BadMany)
                    self.assertIs(value, many)

    def test_all_joining_ones(self):
        for reckoning in joining_reckonings():
            self.assertIs(is_table(reckoning, 1, ((reckoning.greatest(),),)), True)


if __name__ == "__main__":
    unittest.main()
