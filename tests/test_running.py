import unittest
from random import Random

from tests.support import (
    LONG_BOOKS, LONG_WORDS, NO_RULES, TOLD_WORDS, back, caught, joining_reckonings, on, random_table, random_web, random_worth,
    small_cases, strange_things,
)
from watchedways.books import Book
from watchedways.errors import BadReckoning, BadRule, BadTables, TooMany
from watchedways.lengths import Lengths
from watchedways.making import beside, lots, turned, widths, yes_no
from watchedways.numbers import Numbers
from watchedways.reckonings import Reckoning
from watchedways.rules import calm_rule, rule
from watchedways.running import run, run_back
from watchedways.speaking import Tongues
from watchedways.tongues import Tongue, tongue_of
from watchedways.webs import Web

FIRST_STAYS = lots([[0, 1, 2], [1, 1, 1], [2, 2, 2]], 0)
LAST_STAYS = turned(FIRST_STAYS)


def all_reckonings():
    return joining_reckonings() + [LAST_STAYS, beside(yes_no(), FIRST_STAYS), widths(15)]


def unit_of(reckoning, many):
    return [[reckoning.one if p == q else reckoning.none for q in range(many)] for p in range(many)]


def product_of(reckoning, one, other):
    many = range(len(one))
    made = [[reckoning.none for _ in many] for _ in many]
    for p in many:
        for q in many:
            for r in many:
                made[p][q] = reckoning.join(made[p][q], reckoning.times(one[p][r], other[r][q]))
    return made


def worked_run(reckoning, tables, steps):
    """The answer step by step, by the words of the document."""
    many = range(len(next(iter(tables.values()))))
    found = unit_of(reckoning, len(many))
    for kind, watch in reversed(steps):
        table = tables[watch]
        if kind == "on":
            found = product_of(reckoning, table, found)
            continue
        made = [[reckoning.greatest() for _ in many] for _ in many]
        for p in many:
            for q in many:
                for r in many:
                    made[p][q] = reckoning.meet(made[p][q], reckoning.left(table[r][p], found[r][q]))
        found = made
    return tuple(tuple(row) for row in found)


def worked_run_back(reckoning, tables, steps):
    many = range(len(next(iter(tables.values()))))
    found = unit_of(reckoning, len(many))
    for kind, watch in steps:
        table = tables[watch]
        if kind == "on":
            found = product_of(reckoning, found, table)
            continue
        made = [[reckoning.greatest() for _ in many] for _ in many]
        for p in many:
            for q in many:
                for r in many:
                    made[p][q] = reckoning.meet(made[p][q], reckoning.right(found[p][r], table[q][r]))
        found = made
    return tuple(tuple(row) for row in found)


class MainFact(unittest.TestCase):
    def check(self, web, book, word, steps):
        tables, wanted = web.tables(book), web.table(word)
        for answer in (run(web.reckoning, tables, steps), run_back(web.reckoning, tables, steps)):
            self.assertEqual(answer, wanted)
            self.assertIs(type(answer), tuple)
            self.assertTrue(all(type(row) is tuple for row in answer))

    def test_told_words_in_every_kind_of_web(self):
        chance = Random(51)
        for reckoning in all_reckonings():
            for watches, word, steps in TOLD_WORDS:
                book, letters = Book(watches), "".join(sorted(set(word)))
                for places, roads in ((1, 2), (2, 3), (3, 5)):
                    web = random_web(chance, reckoning, places, letters, roads)
                    for each in (steps, rule(book, word), calm_rule(book, word)):
                        self.check(web, book, word, each)

    def test_more_places(self):
        chance = Random(52)
        for reckoning in all_reckonings():
            if isinstance(reckoning, Tongues):
                continue
            for watches, word, steps in TOLD_WORDS:
                letters = "".join(sorted(set(word)))
                self.check(random_web(chance, reckoning, 10, letters, 40), Book(watches), word, steps)
                self.check(random_web(chance, reckoning, 5, letters, 12), Book(watches), word, steps)

    def test_many_books(self):
        chance, told = Random(53), 0
        for watches, word in small_cases():
            book = Book(watches)
            steps = calm_rule(book, word)
            if steps is not None and len(steps) > 1 and chance.random() < 0.3:
                told += 1
                reckoning = chance.choice(all_reckonings())
                web = random_web(chance, reckoning, chance.randint(1, 3), "abc", 7)
                self.check(web, book, word, steps)
        self.assertGreater(told, 60)

    def test_long_rules(self):
        chance = Random(54)
        steps = (on("ab"),) + (on("b"), back("b")) * 39 + (on("ba"),)
        for reckoning in (widths(3), Lengths(), FIRST_STAYS):
            web = random_web(chance, reckoning, 3, "ab", 10)
            tables = {watch: web.table(watch) for watch in ("ab", "b", "ba", "abba")}
            self.assertEqual(run(reckoning, tables, steps), worked_run(reckoning, tables, steps))
            self.assertEqual(run_back(reckoning, tables, steps), worked_run_back(reckoning, tables, steps))

    def test_lengths(self):
        web = Web(Lengths(), ["p", "q", "r"], [("p", "a", "q", 3), ("q", "a", "r", 0), ("r", "a", "r", 5), ("p", "a", "p", 4)])
        book = Book(["aaaa", "aaa"])
        self.assertEqual(web.table("aaaaa"), ((20, 19, 15), (None, None, 20), (None, None, 25)))
        self.check(web, book, "aaaaa", (on("aaaa"), back("aaa"), on("aaaa")))

    def test_long_words(self):
        chance = Random(55)
        told = 0
        for watches in LONG_BOOKS:
            for word in LONG_WORDS:
                book = Book(watches)
                for steps in (rule(book, word), calm_rule(book, word)):
                    if steps is not None:
                        told += 1
                        for reckoning in (widths(4), Lengths(), FIRST_STAYS):
                            self.check(random_web(chance, reckoning, 3, "abc", 9), book, word, steps)
        self.assertGreater(told, 15)


class StepByStep(unittest.TestCase):
    def test_any_tables(self):
        chance = Random(56)
        plans = ["o", "oo", "obo", "oobo", "obbo", "obobo", "obobbo"]
        for reckoning in all_reckonings():
            for plan in plans:
                many = chance.randint(1, 2 if isinstance(reckoning, Tongues) else 4)
                tables = {"ab"[at % 2] * (at + 1): random_table(chance, reckoning, many) for at in range(4)}
                steps = tuple((on if kind == "o" else back)(chance.choice(sorted(tables))) for kind in plan)
                if isinstance(reckoning, Tongues):
                    kind, wanted = caught(worked_run, reckoning, tables, steps)
                    if kind is TooMany:
                        continue
                self.assertEqual(run(reckoning, tables, steps), worked_run(reckoning, tables, steps))
                self.assertEqual(run_back(reckoning, tables, steps), worked_run_back(reckoning, tables, steps))

    def test_rules_that_follow_nothing(self):
        tables = {"a": ((1, 0), (1, 1)), "bb": ((0, 1), (1, 0)), "c": ((0, 0), (1, 1))}
        for steps in ((on("a"), back("bb"), back("bb"), on("c")), (on("c"), back("a"), on("bb")), (on("bb"), on("a"))):
            self.assertEqual(run(yes_no(), tables, steps), worked_run(yes_no(), tables, steps))
            self.assertEqual(run_back(yes_no(), tables, steps), worked_run_back(yes_no(), tables, steps))

    def test_left_and_right_are_not_the_same(self):
        differ = 0
        for one in range(8):
            for other in range(8):
                tables = {"a": ((one,),), "b": ((other,),), "c": ((FIRST_STAYS.one,),)}
                steps = (on("a"), back("b"), on("c"))
                first = FIRST_STAYS.times(one, FIRST_STAYS.left(other, FIRST_STAYS.one))
                second = FIRST_STAYS.right(one, other)
                self.assertEqual(run(FIRST_STAYS, tables, steps), ((first,),))
                self.assertEqual(run_back(FIRST_STAYS, tables, steps), ((second,),))
                differ += first != second
        self.assertGreater(differ, 3)

    def test_one_step(self):
        chance = Random(57)
        for reckoning in all_reckonings():
            table = random_table(chance, reckoning, 2)
            for call in (run, run_back):
                self.assertEqual(call(reckoning, {"abc": table, "b": table}, (on("abc"),)), table)

    def test_no_way_ahead(self):
        # From a place that no way leads to, everything is let.
        tables = {"a": ((0, 0), (0, 1)), "b": ((0, 0), (0, 0))}
        steps = (on("a"), back("b"), on("a"))
        self.assertEqual(run(yes_no(), tables, steps), ((0, 0), (1, 1)))
        lengths = {"a": ((None, None), (None, 7)), "b": ((None, 1), (None, 4))}
        self.assertEqual(run(Lengths(), lengths, steps), ((None, None), (None, None)))
        self.assertEqual(run_back(Lengths(), lengths, steps), ((None, None), (None, 10)))

    def test_arguments_stay(self):
        tables = {"a": ((1, 0), (1, 1)), "b": ((0, 1), (1, 0))}
        kept = dict(tables)
        run(yes_no(), tables, (on("a"), back("b"), on("a")))
        run_back(yes_no(), tables, (on("a"), back("b"), on("a")))
        self.assertEqual((tables, list(tables)), (kept, list(kept)))


class Errors(unittest.TestCase):
    GOOD = {"a": ((1, 0), (1, 1)), "b": ((0, 1), (1, 0)), "ab": ((0, 1), (1, 1))}
    STEPS = (on("a"), back("b"), on("ab"))

    def both(self, *given):
        first, second = caught(run, *given), caught(run_back, *given)
        self.assertIs(first[0], second[0])
        self.assertTrue(first[1] is second[1] or first[1] == second[1])
        return first

    def test_reckoning(self):
        for thing in strange_things() + [Numbers(), Lengths, 5]:
            if isinstance(thing, (Reckoning, Lengths, Tongues)):
                continue
            for given in ((self.GOOD, self.STEPS), ({}, self.STEPS), (None, None)):
                kind, value = self.both(thing, *given)
                self.assertIs(kind, BadReckoning)
                self.assertIs(value, thing)

    def test_no_dict(self):
        for thing in strange_things() + [{}, [self.GOOD], tuple(self.GOOD.items()), "a"]:
            if isinstance(thing, dict) and thing:
                continue
            for steps in (self.STEPS, None):
                self.assertEqual(self.both(yes_no(), thing, steps), (BadTables, -1))

    def with_item(self, at, key, table):
        rows = list(self.GOOD.items())
        return dict(rows[:at] + [(key, table)] + rows[at:])

    def test_wrong_keys(self):
        table = self.GOOD["a"]
        for key in [None, True, False, 0, 1, -1, "", "A", "a" * 13, "a b", " a", (), ("a",), (1, "a"), b"a", "a1"]:
            for at in range(4):
                tables = self.with_item(at, key, table)
                for steps in (self.STEPS, None):
                    kind, value = self.both(yes_no(), tables, steps)
                    self.assertIs(kind, BadTables)
                    self.assertEqual((value, type(value)), (key, type(key)))
                tables = {**self.with_item(at, key, table), "ccc": None, "B": table}
                self.assertEqual(self.both(yes_no(), tables, self.STEPS), (BadTables, key))

    def test_wrong_tables(self):
        row = (0, 1)
        wrong = [(), ((),), ((1,),), (row, row, row), [row, row], (list(row), row), (row, list(row)), (row, (0,)),
                 (row, (0, 1, 0)), (row, (0, 2)), (row, (0, True)), ((None, 1), row), (row, ("0", 1)), row, None, "a",
                 tuple([(0,) * 3] * 3), tuple([(0,) * 11] * 11)]
        for thing in wrong + strange_things():
            for at in range(1, 4):
                self.assertEqual(self.both(yes_no(), self.with_item(at, "xyz", thing), self.STEPS), (BadTables, "xyz"))
                twice = {**self.with_item(at, "xyz", thing), "z": thing, "": row}
                self.assertEqual(self.both(yes_no(), twice, None), (BadTables, "xyz"))

    def test_first_table(self):
        three = tuple([(0,) * 3] * 3)
        self.assertEqual(self.both(yes_no(), self.with_item(0, "x", three), self.STEPS), (BadTables, "a"))
        self.assertEqual(self.both(yes_no(), self.with_item(0, "x", [three]), self.STEPS), (BadTables, "x"))
        eleven, ten = tuple([(0,) * 11] * 11), tuple([(0,) * 10] * 10)
        self.assertEqual(self.both(yes_no(), {"a": eleven}, (on("a"),)), (BadTables, "a"))
        self.assertEqual(self.both(yes_no(), {"a": ten, "b": eleven}, (on("a"),)), (BadTables, "b"))
        self.assertEqual(self.both(yes_no(), {"a": ten}, (on("a"),)), (None, ten))

    def test_tables_of_another_reckoning(self):
        chance = Random(58)
        for reckoning in all_reckonings():
            for other in [-1, True, 16, "0", tongue_of("9", [""]), (0,)]:
                if not reckoning.is_worth(other):
                    tables = {"a": ((random_worth(chance, reckoning),),), "b": ((other,),)}
                    self.assertEqual(self.both(reckoning, tables, (on("a"),)), (BadTables, "b"))

    def test_rule(self):
        every = {watch: self.GOOD["a"] for watch in ("a", "b", "ab", "aa")}
        for thing in strange_things() + NO_RULES:
            kind, value = self.both(yes_no(), every, thing)
            self.assertIs(kind, BadRule, thing)
            self.assertIs(value, thing)

    def test_watch_that_is_no_key(self):
        for steps in ((on("c"),), (on("c"), on("a")), (on("a"), on("c")), (on("a"), back("c"), on("a")),
                      (on("a"), on("aa"), on("b")), (on("abb"),)):
            kind, value = self.both(yes_no(), self.GOOD, steps)
            self.assertIs(kind, BadRule)
            self.assertIs(value, steps)

    def test_bounds(self):
        eighty = (on("a"),) * 80
        self.assertEqual(self.both(yes_no(), self.GOOD, eighty), (None, ((1, 0), (1, 1))))
        self.assertEqual(self.both(yes_no(), self.GOOD, (on("a"),) * 81), (BadRule, (on("a"),) * 81))

    def test_many_states_on_the_way(self):
        # Only the tongues of the answer must not have too many states.
        tongues = Tongues("0")
        line = Tongue("0", [[at + 1] for at in range(151)] + [[151]], [150])
        tables = {"a": ((line,),), "b": ((tongues.none,),), "c": ((tongues.one,),)}
        for steps in ((on("a"), on("a"), on("b")), (on("b"), on("a"), on("a")), (on("b"), back("c"), on("a"), on("a"))):
            self.assertEqual(self.both(tongues, tables, steps), (None, ((tongues.none,),)))
        for steps in ((on("a"), on("a"), back("a"), on("c")), (on("c"), back("a"), on("a"), on("a"))):
            answers = [call(tongues, tables, steps)[0][0] for call in (run, run_back)]
            self.assertIn(tables["a"][0][0], answers)
        self.assertEqual(self.both(tongues, tables, (on("a"), on("a"))), (TooMany, None))

    def test_too_many_states(self):
        line = Tongue("0", [[at + 1] for at in range(101)] + [[101]], [100])
        self.assertEqual(self.both(Tongues("0"), {"a": ((line,),)}, (on("a"), on("a"))), (TooMany, None))


if __name__ == "__main__":
    unittest.main()
