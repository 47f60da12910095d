import time
import unittest
from itertools import product
from random import Random

from tests.support import (
    FIRST_STAYS, THREE_TURNS, bounded_tables, caught, chain_tables, good_tables, lot_tables, renamed, strange_things,
    told,
)
from watchedways.errors import BadReckoning, BadWorth
from watchedways.faults import same_fault
from watchedways.lengths import Lengths
from watchedways.reckonings import Reckoning

SIZE = (BadReckoning, ("size", -1, -1, -1))


def first_fault(joins, products, none, one):
    """What the document calls the first thing that is not so, by trying all worths."""
    def j(a, b):
        return joins[a][b]

    def p(a, b):
        return products[a][b]

    asked = [
        ("none", 1, lambda a: j(none, a) == a and j(a, none) == a and p(none, a) == none and p(a, none) == none),
        ("one", 1, lambda a: p(one, a) == a and p(a, one) == a),
        ("idle", 1, lambda a: j(a, a) == a),
        ("swap", 2, lambda a, b: j(a, b) == j(b, a)),
        ("join", 3, lambda a, b, c: j(j(a, b), c) == j(a, j(b, c))),
        ("product", 3, lambda a, b, c: p(p(a, b), c) == p(a, p(b, c))),
        ("over", 3, lambda a, b, c: p(a, j(b, c)) == j(p(a, b), p(a, c)) and p(j(b, c), a) == j(p(b, a), p(c, a))),
        ("same", 0, lambda: none != one),
    ]
    for word, many, holds in asked:
        for worths in product(range(len(joins)), repeat=many):
            if not holds(*worths):
                return (word, *worths, -1, -1, -1)[:4]
    return None


def copied(tables):
    joins, products, none, one = tables
    return [list(row) for row in joins], [list(row) for row in products], none, one


class GoodTables(unittest.TestCase):
    def test_attributes(self):
        for joins, products, none, one in good_tables():
            reckoning = Reckoning(joins, products, none, one)
            self.assertEqual(reckoning.joins, tuple(map(tuple, joins)))
            self.assertEqual(reckoning.products, tuple(map(tuple, products)))
            self.assertIsInstance(reckoning.joins, tuple)
            self.assertTrue(all(isinstance(row, tuple) for row in reckoning.joins + reckoning.products))
            self.assertEqual((reckoning.none, reckoning.one), (none, one))

    def test_lists_and_tuples(self):
        joins, products, none, one = chain_tables(3)
        mixed = Reckoning((joins[0], tuple(joins[1]), joins[2]), tuple(map(tuple, products)), none, one)
        self.assertEqual(mixed.joins, ((0, 1, 2), (1, 1, 2), (2, 2, 2)))
        self.assertEqual(mixed.products, ((0, 0, 0), (0, 1, 1), (0, 1, 2)))

    def test_rows_are_copied_and_not_changed(self):
        given, kept = bounded_tables(5), bounded_tables(5)
        reckoning = Reckoning(*given)
        self.assertEqual(given, kept)
        given[0][1][1] = 4
        given[1][2] = "gone"
        given[0].append([])
        self.assertEqual(reckoning, told(kept))
        self.assertEqual(reckoning.join(1, 1), 1)
        self.assertEqual(reckoning.left(2, 1), 3)

    def test_least_and_greatest_size(self):
        self.assertEqual(len(told(chain_tables(2)).joins), 2)
        self.assertEqual(len(told(chain_tables(16)).joins), 16)
        self.assertEqual(caught(Reckoning, *chain_tables(1)), SIZE)
        self.assertEqual(caught(Reckoning, *chain_tables(17)), SIZE)
        self.assertEqual(caught(Reckoning, [], [], 0, 0), SIZE)


class Sizes(unittest.TestCase):
    def test_rows_of_other_lengths(self):
        for which in (0, 1):
            for change in (lambda rows: rows.pop(), lambda rows: rows.append(rows[0]), lambda rows: rows[1].pop(),
                           lambda rows: rows[2].append(0), lambda rows: rows.clear(), lambda rows: rows[0].clear()):
                tables = copied(chain_tables(3))
                change(tables[which])
                self.assertEqual(caught(Reckoning, *tables), SIZE)
        small, large = chain_tables(3), chain_tables(4)
        self.assertEqual(caught(Reckoning, small[0], large[1], 0, 2), SIZE)
        self.assertEqual(caught(Reckoning, large[0], small[1], 0, 2), SIZE)

    def test_things_that_are_no_rows(self):
        joins, products, none, one = chain_tables(3)
        for wrong in strange_things() + ["abc", {0: 0, 1: 1, 2: 2}]:
            self.assertEqual(caught(Reckoning, wrong, products, none, one), SIZE)
            self.assertEqual(caught(Reckoning, joins, wrong, none, one), SIZE)
            for which in (0, 1):
                tables = copied((joins, products, none, one))
                tables[which][2] = wrong
                self.assertEqual(caught(Reckoning, *tables), SIZE)

    def test_things_that_are_no_worths(self):
        joins, products, none, one = chain_tables(3)
        for wrong in strange_things() + [-1, 3, 10 ** 20, True, False, 1.0, "1"]:
            if wrong in (0, 1, 2) and type(wrong) is int:
                continue
            self.assertEqual(caught(Reckoning, joins, products, wrong, one), SIZE)
            self.assertEqual(caught(Reckoning, joins, products, none, wrong), SIZE)
            for which in (0, 1):
                for row, column in ((0, 0), (0, 1), (1, 1), (2, 2)):
                    tables = copied((joins, products, none, one))
                    tables[which][row][column] = wrong
                    self.assertEqual(caught(Reckoning, *tables), SIZE)

    def test_size_comes_ahead_of_all_else(self):
        joins, products, none, one = copied(chain_tables(3))
        joins[1][1] = 2
        products[2][2] = 3
        self.assertEqual(caught(Reckoning, joins, products, none, one), SIZE)
        self.assertEqual(caught(Reckoning, joins, chain_tables(3)[1], 0, 3), SIZE)


class Faults(unittest.TestCase):
    def assert_fault(self, tables, fault):
        self.assertEqual(caught(Reckoning, *tables), (BadReckoning, fault))
        self.assertEqual(first_fault(*tables), fault)

    def test_each_word_alone(self):
        joins, products, none, one = chain_tables(3)
        self.assert_fault((joins, products, 1, 2), ("none", 0, -1, -1))
        self.assert_fault((joins, products, 0, 1), ("one", 2, -1, -1))
        self.assert_fault(([[0, 1, 2], [1, 2, 2], [2, 2, 2]], products, 0, 2), ("idle", 1, -1, -1))
        self.assert_fault(([[0, 1, 2], [1, 1, 1], [2, 2, 2]], products, 0, 2), ("swap", 1, 2, -1))
        self.assert_fault((joins, products, 0, 0), ("one", 1, -1, -1))
        # Three worths above none of which each two make the third one.
        joins = [[0, 1, 2, 3], [1, 1, 3, 2], [2, 3, 2, 1], [3, 2, 1, 3]]
        self.assert_fault((joins, chain_tables(4)[1], 0, 3), ("join", 1, 1, 2))

    def test_none_at_each_place(self):
        for which, row, column, wrong, fault in (
            (0, 0, 1, 2, 1), (0, 1, 0, 2, 1), (0, 0, 2, 1, 2), (0, 2, 0, 0, 2), (0, 0, 0, 1, 0),
            (1, 0, 1, 1, 1), (1, 1, 0, 1, 1), (1, 0, 2, 1, 2), (1, 2, 0, 2, 2), (1, 0, 0, 2, 0),
        ):
            tables = copied(chain_tables(3))
            tables[which][row][column] = wrong
            self.assert_fault(tables, ("none", fault, -1, -1))

    def test_one_at_each_place(self):
        for row, column, wrong, fault in ((2, 1, 0, 1), (1, 2, 2, 1), (2, 2, 1, 2)):
            tables = copied(chain_tables(3))
            tables[1][row][column] = wrong
            self.assert_fault(tables, ("one", fault, -1, -1))

    def test_product_and_over(self):
        joins = chain_tables(4)[0]
        products = [[0, 0, 0, 0], [0, 0, 1, 1], [0, 0, 2, 2], [0, 1, 2, 3]]
        self.assertIsNone(first_fault(joins, products, 0, 3))
        products = [[0, 0, 0, 0], [0, 0, 1, 1], [0, 1, 1, 2], [0, 1, 2, 3]]
        self.assert_fault((joins, products, 0, 3), ("product", 1, 2, 2))
        products = [[0, 0, 0, 0], [0, 0, 0, 1], [0, 0, 0, 2], [0, 1, 2, 3]]
        self.assertIsNone(first_fault(joins, products, 0, 3))
        products = [[0, 0, 0, 0], [0, 1, 1, 1], [0, 1, 0, 2], [0, 1, 2, 3]]
        self.assertEqual(first_fault(joins, products, 0, 3)[0], "product")
        products = [[0, 0, 0, 0], [0, 1, 2, 1], [0, 2, 1, 2], [0, 1, 2, 3]]
        self.assert_fault((joins, products, 0, 3), ("over", 1, 2, 3))

    def test_over_on_either_side(self):
        joins = lot_tables([[0, 1], [1, 0]], 0)[0]
        left_only = [[0, 0, 0, 0], [0, 1, 2, 3], [0, 2, 2, 2], [0, 3, 2, 3]]
        self.assertIsNone(first_fault(joins, left_only, 0, 1))
        for products in product(product(range(4), repeat=2), repeat=2):
            (a, b), (c, d) = products
            tables = (joins, [[0, 0, 0, 0], [0, 1, 2, 3], [0, 2, a, b], [0, 3, c, d]], 0, 1)
            fault = first_fault(*tables)
            if fault is None:
                self.assertEqual(told(tables).products[2], (0, 2, a, b))
            else:
                self.assert_fault(tables, fault)

    def test_all_tables_of_two_worths(self):
        reached, good = set(), 0
        squares = [((a, b), (c, d)) for a, b, c, d in product((0, 1), repeat=4)]
        for joins, products, none, one in product(squares, squares, (0, 1), (0, 1)):
            fault = first_fault(joins, products, none, one)
            if fault is None:
                good += 1
                self.assertIsInstance(Reckoning(joins, products, none, one), Reckoning)
            else:
                reached.add(fault[0])
                self.assert_fault((joins, products, none, one), fault)
        self.assertEqual(good, 2)
        self.assertLessEqual({"none", "one", "idle"}, reached)

    def test_changed_tables(self):
        chance = Random(7)
        reached = set()
        for tables in good_tables():
            many = len(tables[0])
            self.assertIsNone(first_fault(*tables))
            for _ in range(60 if many < 10 else 12):
                joins, products, none, one = copied(tables)
                for _ in range(chance.randint(1, 2)):
                    a, b, c = [chance.randrange(many) for _ in range(3)]
                    kind = chance.randrange(3)
                    if kind == 0:
                        products[a][b] = c
                    elif kind == 1:
                        joins[a][b] = c
                    else:
                        joins[a][b] = joins[b][a] = c
                if chance.random() < 0.05:
                    none = chance.randrange(many)
                fault = first_fault(joins, products, none, one)
                if fault is None:
                    Reckoning(joins, products, none, one)
                else:
                    reached.add(fault[0])
                    self.assert_fault((joins, products, none, one), fault)
        self.assertEqual(reached, {"none", "one", "idle", "swap", "join", "product", "over"})

    def test_none_is_one(self):
        # With two worths or more something else is wrong ahead of it, so this is asked by itself.
        self.assertEqual(same_fault(1, 1), ("same", -1, -1, -1))
        self.assertIsNone(same_fault(0, 1))
        self.assert_fault((*chain_tables(3)[:2], 2, 2), ("none", 0, -1, -1))
        self.assert_fault((*chain_tables(3)[:2], 0, 0), ("one", 1, -1, -1))

    def test_the_first_of_several(self):
        joins, products, none, one = copied(chain_tables(4))
        products[1][2] = products[2][1] = 0
        joins[1][2] = 1
        joins[2][3] = 2
        self.assert_fault((joins, products, none, one), ("swap", 1, 2, -1))
        joins[3][3] = 0
        self.assert_fault((joins, products, none, one), ("idle", 3, -1, -1))
        products[3][1] = 3
        self.assert_fault((joins, products, none, one), ("one", 1, -1, -1))
        joins[3][0] = 1
        self.assert_fault((joins, products, none, one), ("none", 3, -1, -1))


class Worths(unittest.TestCase):
    def test_join_times_beneath(self):
        for joins, products, none, one in good_tables():
            reckoning = Reckoning(joins, products, none, one)
            for a, b in product(range(len(joins)), repeat=2):
                self.assertEqual(reckoning.join(a, b), joins[a][b])
                self.assertEqual(reckoning.times(a, b), products[a][b])
                self.assertIs(reckoning.beneath(a, b), joins[a][b] == b)

    def test_meet_greatest_left_right(self):
        for joins, products, none, one in good_tables():
            reckoning, worths = Reckoning(joins, products, none, one), range(len(joins))

            def top(lot):
                found = [worth for worth in lot if all(joins[other][worth] == worth for other in lot)]
                self.assertEqual(len(found), 1)
                return found[0]

            def beneath(a, b):
                return joins[a][b] == b

            self.assertEqual(reckoning.greatest(), top(list(worths)))
            for a, b in product(worths, repeat=2):
                self.assertEqual(reckoning.meet(a, b), top([w for w in worths if beneath(w, a) and beneath(w, b)]))
                self.assertEqual(reckoning.left(a, b), top([w for w in worths if beneath(products[a][w], b)]))
                self.assertEqual(reckoning.right(a, b), top([w for w in worths if beneath(products[w][b], a)]))

    def test_left_and_right_are_unlike(self):
        reckoning = told(lot_tables(FIRST_STAYS, 0))
        self.assertEqual((reckoning.left(2, 2), reckoning.right(2, 2)), (7, 3))
        reckoning = told(bounded_tables(4))
        self.assertEqual((reckoning.left(2, 1), reckoning.right(1, 2), reckoning.left(1, 2)), (2, 2, 3))

    def test_wrong_worths(self):
        for reckoning in (told(chain_tables(3)), told(lot_tables(THREE_TURNS, 0))):
            many = len(reckoning.joins)
            calls = (reckoning.beneath, reckoning.join, reckoning.times, reckoning.meet, reckoning.left,
                     reckoning.right)
            for wrong in strange_things() + [-1, many, many + 1, 10 ** 40, 1.0]:
                if type(wrong) is int and 0 <= wrong < many:
                    continue
                for call in calls:
                    for given in ((wrong, 0), (0, wrong), (wrong, None), (wrong, "other")):
                        kind, value = caught(call, *given)
                        self.assertIs(kind, BadWorth)
                        self.assertIs(value, wrong)

    def test_is_worth(self):
        for many in (2, 3, 16):
            reckoning = told(chain_tables(many))
            for thing in strange_things() + list(range(-2, 20)):
                self.assertIs(reckoning.is_worth(thing), type(thing) is int and 0 <= thing < many)


class EqualReckonings(unittest.TestCase):
    def test_by_all_four(self):
        every = good_tables()
        for at, one in enumerate(every):
            for other_at, other in enumerate(every):
                self.assertIs(told(one) == told(other), at == other_at or one == other)
                self.assertIs(told(one) != told(other), not (at == other_at or one == other))
        # Unlike in the products alone, and in the joins alone.
        self.assertFalse(told(chain_tables(4)) == told(bounded_tables(4)))
        nearly_all_none = [[0, 0, 0, 0], [0, 0, 0, 1], [0, 0, 0, 2], [0, 1, 2, 3]]
        joins = chain_tables(4)[0]
        turned_joins = renamed(chain_tables(4), [0, 2, 1, 3])[0]
        self.assertFalse(told((joins, nearly_all_none, 0, 3)) == told((turned_joins, nearly_all_none, 0, 3)))
        self.assertFalse(told(chain_tables(3)) == told(renamed(chain_tables(3), [2, 1, 0])))
        self.assertFalse(told(chain_tables(3)) == told(renamed(chain_tables(3), [0, 2, 1])))

    def test_lists_and_tuples(self):
        joins, products, none, one = chain_tables(3)
        self.assertEqual(told((joins, products, none, one)), Reckoning(tuple(joins), tuple(products), none, one))

    def test_nothing_else(self):
        reckoning = told(chain_tables(2))
        for thing in [None, True, 0, 1, "", [], (), {}, chain_tables(2), Lengths(), object(), Reckoning,
                      (reckoning.joins, reckoning.products, 0, 1), [reckoning]]:
            self.assertIs(reckoning == thing, False)
            self.assertIs(thing == reckoning, False)

    def test_working_changes_nothing(self):
        reckoning = told(bounded_tables(5))
        for call in (reckoning.join, reckoning.times, reckoning.meet, reckoning.left, reckoning.right):
            for a, b in product(range(5), repeat=2):
                self.assertEqual(call(a, b), call(a, b))
        self.assertEqual(reckoning, told(bounded_tables(5)))

    def test_it_takes_no_time(self):
        begin = time.perf_counter()
        for _ in range(10):
            told(bounded_tables(16))
        self.assertLess(time.perf_counter() - begin, 3)


if __name__ == "__main__":
    unittest.main()
