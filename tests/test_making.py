import unittest
from itertools import product

from tests.support import (
    FIRST_STAYS, FIRST_STAYS_OR_END, THREE_TURNS, caught, good_tables, lot_tables, nested, strange_things, told,
)
from watchedways.errors import BadMost, BadReckoning, TooMany
from watchedways.lengths import Lengths
from watchedways.making import beside, chain, lots, turned, widths, yes_no
from watchedways.numbers import Numbers
from watchedways.reckonings import Reckoning
from watchedways.speaking import Tongues
from watchedways.webs import Web

SIZE = ("size", -1, -1, -1)


def fault_of(call, *given):
    kind, value = caught(call, *given)
    return value if kind is BadReckoning else kind


def worths_of(reckoning):
    return range(len(reckoning.joins))


def with_item(rows, a, b, item):
    changed = [list(row) for row in rows]
    changed[a][b] = item
    return changed


class Widths(unittest.TestCase):
    def test_yes_no(self):
        reckoning = yes_no()
        self.assertIs(type(reckoning), Reckoning)
        self.assertEqual(reckoning.joins, ((0, 1), (1, 1)))
        self.assertEqual(reckoning.products, ((0, 0), (0, 1)))
        self.assertEqual((reckoning.none, reckoning.one), (0, 1))
        self.assertEqual(reckoning, widths(1))

    def test_widths(self):
        for most in range(1, 16):
            reckoning = widths(most)
            self.assertIs(type(reckoning), Reckoning)
            self.assertEqual((len(reckoning.joins), reckoning.none, reckoning.one), (most + 1, 0, most))
            for a, b in product(range(most + 1), repeat=2):
                self.assertEqual(reckoning.joins[a][b], a if a > b else b)
                self.assertEqual(reckoning.products[a][b], b if a > b else a)

    def test_bounds(self):
        for most in strange_things() + [16, 17, -15, "3", 2.0, 1.0]:
            if type(most) is int and 1 <= most <= 15:
                continue
            kind, value = caught(widths, most)
            self.assertIs(kind, BadMost, most)
            self.assertIs(value, most)


class Turned(unittest.TestCase):
    def test_words(self):
        for tables in good_tables():
            reckoning = told(tables)
            other = turned(reckoning)
            self.assertEqual((other.joins, other.none, other.one), (reckoning.joins, reckoning.none, reckoning.one))
            for a, b in product(worths_of(reckoning), repeat=2):
                self.assertEqual(other.products[a][b], reckoning.products[b][a])
            self.assertEqual(turned(other), reckoning)

    def test_not_the_same(self):
        reckoning = told(lot_tables(FIRST_STAYS, 0))
        self.assertNotEqual(turned(reckoning), reckoning)

    def test_errors(self):
        for thing in strange_things() + [Lengths(), Numbers(), Tongues("0"), Web(yes_no(), ["a"], [])]:
            if not isinstance(thing, Reckoning):
                kind, value = caught(turned, thing)
                self.assertIs(kind, BadReckoning)
                self.assertIs(value, thing)


class Beside(unittest.TestCase):
    def test_words(self):
        small = [widths(1), widths(2), widths(3), widths(7), lots([[0]], 0), lots([[0, 1], [1, 1]], 0)]
        small.append(Reckoning([[0, 0], [0, 1]], [[0, 1], [1, 1]], 1, 0))
        done = 0
        for one, other in product(small, repeat=2):
            m, n = len(one.joins), len(other.joins)
            if m * n > 16:
                self.assertIs(caught(beside, one, other)[0], TooMany)
                continue
            done += 1
            both = beside(one, other)
            self.assertIs(type(both), Reckoning)
            self.assertEqual(len(both.joins), m * n)
            self.assertEqual((both.none, both.one), (one.none * n + other.none, one.one * n + other.one))
            for a, c in product(range(m), repeat=2):
                for b, d in product(range(n), repeat=2):
                    self.assertEqual(both.join(a * n + b, c * n + d), one.join(a, c) * n + other.join(b, d))
                    self.assertEqual(both.times(a * n + b, c * n + d), one.times(a, c) * n + other.times(b, d))
        self.assertGreater(done, 20)

    def test_bounds(self):
        self.assertEqual(len(beside(widths(3), widths(3)).joins), 16)
        self.assertEqual(len(beside(widths(1), widths(7)).joins), 16)
        self.assertEqual(len(beside(widths(4), widths(2)).joins), 15)
        for one, other in ((1, 8), (8, 1), (15, 1), (1, 15), (3, 4), (4, 3), (15, 15)):
            kind, value = caught(beside, widths(one), widths(other))
            self.assertIs(kind, TooMany)
            self.assertIsNone(value)

    def test_errors(self):
        wide = widths(15)
        for thing in strange_things() + [Lengths(), Numbers(), Tongues("0")]:
            if isinstance(thing, Reckoning):
                continue
            for given in ((thing, wide), (wide, thing), (thing, thing), (thing, None)):
                kind, value = caught(beside, *given)
                self.assertIs(kind, BadReckoning)
                self.assertIs(value, thing)


class Lots(unittest.TestCase):
    def things_in(self, lot):
        return [thing for thing in range(5) if lot // 2 ** thing % 2]

    def test_words(self):
        four_turns = [[(a + b) % 4 for b in range(4)] for a in range(4)]
        for products, one in (([[0]], 0), ([[0, 1], [1, 0]], 0), ([[0, 0], [0, 1]], 1), (FIRST_STAYS, 0),
                              (FIRST_STAYS_OR_END, 0), (THREE_TURNS, 0), (four_turns, 0)):
            many = len(products)
            for given in (products, tuple(products), [tuple(row) for row in products]):
                reckoning = lots(given, one)
            self.assertIs(type(reckoning), Reckoning)
            self.assertEqual(len(reckoning.joins), 2 ** many)
            self.assertEqual((reckoning.none, reckoning.one), (0, 2 ** one))
            for a, b in product(range(2 ** many), repeat=2):
                first, second = self.things_in(a), self.things_in(b)
                self.assertEqual(self.things_in(reckoning.joins[a][b]), sorted(set(first) | set(second)))
                made = {products[p][q] for p in first for q in second}
                self.assertEqual(self.things_in(reckoning.products[a][b]), sorted(made))

    def test_size(self):
        good = [[0, 1], [1, 1]]
        wrong = [thing for thing in strange_things() if thing not in ([[0]], ((0,),))]
        for thing in wrong + [[], (), [[]], [[0, 1]], [[0, 1], [1]], [[0, 1], [1, 1, 1]], [[0, 1], [1, 2]],
                              [[0, 1], [1, -1]], [[0, 1], [1, True]], [[0, 1], [True, 1]], [[False, 1], [1, 1]],
                              [[0, 1], [1, None]], [[0, 1], "01"], {0: [0]}, [[0], [1]], nested(19)]:
            self.assertEqual(fault_of(lots, thing, 0), SIZE, thing)
        for one in strange_things() + [2, 3, -1, True, False, "0"]:
            if type(one) is not int or one not in (0, 1):
                self.assertEqual(fault_of(lots, good, one), SIZE, one)
        five = [[max(a, b) for b in range(5)] for a in range(5)]
        self.assertEqual(fault_of(lots, five, 0), SIZE)
        self.assertEqual(fault_of(lots, with_item(five, 0, 0, 1), 0), SIZE)
        self.assertEqual(fault_of(lots, with_item(five, 1, 2, 0), 0), SIZE)
        self.assertEqual(len(lots([row[:4] for row in five[:4]], 0).joins), 16)

    def test_least_fault_of_one(self):
        for many in (1, 2, 3, 4):
            good = [[max(a, b) for b in range(many)] for a in range(many)]
            for a, item in product(range(many), repeat=2):
                for changed in (with_item(good, 0, a, item), with_item(good, a, 0, item)):
                    wanted = ("one", a, -1, -1) if item != a else None
                    self.assertEqual(fault_of(lots, changed, 0), wanted)

    def test_all_tables_of_few_things(self):
        for many, one in ((1, 0), (2, 0), (2, 1), (3, 0), (3, 2)):
            tables = product(product(range(many), repeat=many), repeat=many)
            for at, table in enumerate(tables):
                if many < 3 or at % 17 == 0:
                    self.assertEqual(fault_of(lots, table, one), self.wanted(table, one), table)

    def wanted(self, table, one):
        things = range(len(table))
        for a in things:
            if table[one][a] != a or table[a][one] != a:
                return ("one", a, -1, -1)
        for a, b, c in product(things, repeat=3):
            if table[table[a][b]][c] != table[a][table[b][c]]:
                return ("product", a, b, c)
        return None

    def test_order(self):
        self.assertEqual(fault_of(lots, [[1, 1], [0, 0]], 2), SIZE)
        self.assertEqual(fault_of(lots, [[0, 1, 2], [1, 2, 0], [2, 1, 1]], 0)[0], "product")
        self.assertEqual(fault_of(lots, [[0, 1, 2], [1, 2, 0], [1, 1, 1]], 0), ("one", 2, -1, -1))


class Chain(unittest.TestCase):
    def test_words(self):
        for many in range(2, 17):
            bounded = [[max(0, a + b - many + 1) for b in range(many)] for a in range(many)]
            lesser = [[min(a, b) for b in range(many)] for a in range(many)]
            for times in (bounded, lesser, tuple(tuple(row) for row in bounded)):
                reckoning = chain(times)
                self.assertIs(type(reckoning), Reckoning)
                self.assertEqual((reckoning.none, reckoning.one), (0, many - 1))
                self.assertEqual(reckoning.products, tuple(tuple(row) for row in times))
                for a, b in product(range(many), repeat=2):
                    self.assertEqual(reckoning.joins[a][b], a if a > b else b)
            self.assertEqual(chain(lesser), widths(many - 1))

    def test_size(self):
        good = [[0, 0], [0, 1]]
        self.assertEqual(chain(good), yes_no())
        for thing in strange_things() + [[[0]], [[0, 0]], [[0, 0], [0]], [[0, 0], [0, 2]], [[0, 0], [0, -1]], [[]],
                                         [[0, 0], [0, True]], [[0, False], [0, 1]], [[0, 0], "01"], "01", {}]:
            self.assertEqual(fault_of(chain, thing), SIZE, thing)
        for many in (1, 17, 18, 40):
            self.assertEqual(fault_of(chain, [[min(a, b) for b in range(many)] for a in range(many)]), SIZE)

    def test_each_table_of_few_worths(self):
        for many in (2, 3):
            for at, table in enumerate(product(product(range(many), repeat=many), repeat=many)):
                if many == 2 or at % 11 == 0 or (table[0] == (0, 0, 0) and table[2] == (0, 1, 2)):
                    self.assertEqual(fault_of(chain, table), self.wanted(table), table)

    def wanted(self, table):
        worths = range(len(table))
        one = len(table) - 1
        for a in worths:
            if table[0][a] != 0 or table[a][0] != 0:
                return ("none", a, -1, -1)
        for a in worths:
            if table[one][a] != a or table[a][one] != a:
                return ("one", a, -1, -1)
        for a, b, c in product(worths, repeat=3):
            if table[table[a][b]][c] != table[a][table[b][c]]:
                return ("product", a, b, c)
        for a, b, c in product(worths, repeat=3):
            if table[a][max(b, c)] != max(table[a][b], table[a][c]):
                return ("over", a, b, c)
            if table[max(b, c)][a] != max(table[b][a], table[c][a]):
                return ("over", a, b, c)
        return None

    def test_order(self):
        self.assertEqual(fault_of(chain, [[0, 1], [1, 0]]), ("none", 1, -1, -1))
        self.assertEqual(fault_of(chain, [[0, 0], [0, 0]]), ("one", 1, -1, -1))
        self.assertEqual(fault_of(chain, [[0, 0, 1], [0, 0, 1], [0, 2, 2]]), ("none", 2, -1, -1))
        self.assertEqual(fault_of(chain, [[0, 0, 0], [0, 2, 0], [0, 1, 2]]), ("one", 1, -1, -1))

    def test_over(self):
        found = {}
        for table in product(product(range(4), repeat=2), repeat=2):
            times = ((0, 0, 0, 0), (0, *table[0], 1), (0, *table[1], 2), (0, 1, 2, 3))
            self.assertEqual(fault_of(chain, times), self.wanted(times))
            fault = self.wanted(times)
            found[fault and fault[0]] = True
        self.assertLessEqual({"over", "product", None}, set(found))


if __name__ == "__main__":
    unittest.main()
