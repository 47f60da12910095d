import unittest
from random import Random

from tests.fractions_of import as_fraction, fraction_rows, led_back, led_on
from tests.support import (
    NO_RULES, TOLD_WORDS, back, caught, on, only_ratios, random_web, small_cases, strange_things,
)
from watchedways.books import Book
from watchedways.errors import BadRule, BadTables, ManyRows, NoRow
from watchedways.numbers import Numbers
from watchedways.ratios import Ratio
from watchedways.rules import calm_rule, rule
from watchedways.solving import solve
from watchedways.webs import Web


def worked_solve(tables, steps):
    """The answer by the words of the document, lot after lot, in Python's own fractions."""
    size = len(next(iter(tables.values())))
    found = []
    for p in range(size):
        lot = (tuple(as_fraction(1 if at == p else 0) for at in range(size)), ())
        for kind, watch in steps:
            table = fraction_rows(tables[watch])
            if lot is not None:
                lot = led_on(lot, table) if kind == "on" else led_back(lot, table)
        if lot is None:
            return NoRow, p
        if lot[1]:
            return ManyRows, p
        found.append(tuple(Ratio(item.numerator, item.denominator) for item in lot[0]))
    return None, tuple(found)


class MainFact(unittest.TestCase):
    def check(self, web, book, word, steps):
        answer = solve(web.tables(book), steps)
        self.assertTrue(only_ratios(answer))
        self.assertIs(type(answer), tuple)
        self.assertEqual(answer, web.table(word))

    def test_told_words(self):
        chance = Random(71)
        solved = 0
        for watches, word, steps in TOLD_WORDS:
            book, letters = Book(watches), "".join(sorted(set(word)))
            for places, roads in ((1, 2), (2, 8), (3, 18), (4, 32), (6, 72), (3, 5)):
                web = random_web(chance, Numbers(), places, letters, roads)
                for each in (steps, rule(book, word), calm_rule(book, word)):
                    solved += 1
                    self.check(web, book, word, each)
        self.assertEqual(solved, 144)

    def test_many_books(self):
        chance, told = Random(72), 0
        for watches, word in small_cases():
            book = Book(watches)
            steps = calm_rule(book, word)
            if steps is not None and 1 < len(steps) <= 12:
                told += 1
                self.check(random_web(chance, Numbers(), chance.randint(1, 4), "abc", 20), book, word, steps)
        self.assertGreater(told, 100)

    def test_fractions_and_numbers_below_0(self):
        roads = [("p", "a", "p", Ratio(-1, 2)), ("p", "a", "q", Ratio(3, 7)), ("q", "a", "p", -5)]
        web = Web(Numbers(), ["p", "q"], roads)
        steps = (on("aaaa"), back("aaa"), on("aaaa"))
        self.check(web, Book(["aaaa", "aaa"]), "aaaaa", steps)
        answer = solve(web.tables(Book(["aaaa", "aaa"])), steps)
        a, b, c = as_fraction(Ratio(-1, 2)), as_fraction(Ratio(3, 7)), as_fraction(-5)
        self.assertEqual(as_fraction(answer[1][1]), c * (a ** 3 + 2 * a * b * c) * b)

    def test_tables_without_a_way_back(self):
        # Not all tables can be led back to one row, but behind the last step there is one.
        roads = [("p", "a", "q", 2), ("q", "a", "r", 3), ("r", "a", "s", Ratio(1, 3)), ("s", "a", "t", 1), ("t", "a", "u", 7)]
        web = Web(Numbers(), list("pqrstu"), roads)
        self.check(web, Book(["aaaa", "aaa"]), "aaaaa", (on("aaaa"), back("aaa"), on("aaaa")))

    def test_twelve_steps(self):
        chance = Random(73)
        steps = (on("ab"), back("b"), on("ba"), back("ba"), on("b"), back("b"), on("b"), back("ab"), on("ab"), back("b"),
                 on("b"), on("a"))
        book = Book(["ab", "b", "ba", "a"])
        for places in (2, 4, 6):
            self.check(random_web(chance, Numbers(), places, "ab", 60), book, "aba", steps)

    def test_long_numbers(self):
        chance = Random(74)
        names = list("pqrs")
        long = 10 ** 30
        roads = [(one, letter, other, Ratio(chance.randint(1, long), chance.randint(1, long)))
                 for one in names for letter in "ab" for other in names]
        self.check(Web(Numbers(), names, roads), Book(["ab", "b", "ba"]), "aba", (on("ab"), back("b"), on("ba")))


class AnyTables(unittest.TestCase):
    def test_step_by_step(self):
        chance = Random(75)
        kinds = {}
        for _ in range(1500):
            size = chance.randint(1, 3)
            numbers = [0, 0, 0, 1, 1, 2, -1, Ratio(1, 2), Ratio(-4, 3)]
            tables = {watch: tuple(tuple(chance.choice(numbers) for _ in range(size)) for _ in range(size))
                      for watch in ("a", "b", "ab")}
            plan = chance.choice(["o", "oo", "obo", "oobo", "obbo", "obobo", "obboo"])
            steps = tuple((on if kind == "o" else back)(chance.choice(sorted(tables))) for kind in plan)
            kind, wanted = worked_solve(tables, steps)
            kinds[kind and kind.__name__, wanted if kind else 0] = True
            self.assertEqual(caught(solve, tables, steps), (kind, wanted))
            if kind is None:
                self.assertTrue(only_ratios(solve(tables, steps)))
        # What may be put to the rows of a lot is the same for all places: so only the first one can have many rows.
        self.assertEqual(sorted(key for key in kinds if key[0]), [("ManyRows", 0)] + [("NoRow", p) for p in (0, 1, 2)])

    def test_integers(self):
        tables = {"a": ((1, 2), (3, 4)), "b": ((Ratio(1, 2), 0), (0, -2))}
        answer = solve(tables, (on("a"), back("b"), on("a")))
        self.assertTrue(only_ratios(answer))
        self.assertEqual(answer, ((-1, 0), (0, 4)))
        self.assertTrue(only_ratios(solve({"a": ((0, 1), (1, 0))}, (on("a"),))))
        self.assertEqual(tables["a"], ((1, 2), (3, 4)))

    def test_no_row(self):
        steps = (on("a"), back("b"), on("c"))
        one, none = ((1, 0), (0, 1)), ((0, 0), (0, 0))
        self.assertEqual(caught(solve, {"a": one, "b": none, "c": one}, steps), (NoRow, 0))
        self.assertEqual(caught(solve, {"a": ((0, 0), (0, 1)), "b": none, "c": none}, steps), (NoRow, 1))
        # An empty lot stays empty, even where the table of a later step leads all to 0.
        self.assertEqual(caught(solve, {"a": one, "b": none, "c": none}, steps), (NoRow, 0))
        again = steps[:2] + (back("c"), on("a"))
        self.assertEqual(caught(solve, {"a": one, "b": none, "c": none}, again), (NoRow, 0))
        self.assertEqual(caught(solve, {"a": one, "b": none, "c": one}, again), (NoRow, 0))
        self.assertEqual(caught(solve, {"a": one, "b": ((1, 0), (0, 0)), "c": ((1, 0), (0, 0))}, steps), (NoRow, 1))

    def test_many_rows(self):
        steps = (on("a"), back("b"), on("c"))
        one, none, first = ((1, 0), (0, 1)), ((0, 0), (0, 0)), ((1, 0), (0, 0))
        self.assertEqual(caught(solve, {"a": none, "b": none, "c": one}, steps), (ManyRows, 0))
        self.assertEqual(caught(solve, {"a": first, "b": first, "c": one}, steps), (ManyRows, 0))
        # The rows of a lot may all be led to one.
        self.assertEqual(solve({"a": first, "b": first, "c": ((5, 0), (0, 0))}, steps), ((5, 0), (0, 0)))
        self.assertEqual(solve({"a": none, "b": none, "c": none}, steps), none)

    def test_whichever_place_is_first(self):
        steps = (on("a"), back("b"), on("c"))
        one = ((1, 0), (0, 1))
        # The row of the place 0 is led back to many rows, that of the place 1 to none; and the other way round.
        tables = {"a": one, "b": ((1, 0), (2, 0)), "c": one}
        self.assertEqual(caught(solve, tables, steps), (ManyRows, 0))
        tables = {"a": ((0, 1), (1, 0)), "b": ((1, 0), (2, 0)), "c": one}
        self.assertEqual(caught(solve, tables, steps), (NoRow, 0))
        tables = {"a": ((1, 0, 0), (0, 0, 1), (0, 1, 0)), "b": ((1, 0, 0), (0, 1, 0), (0, 1, 0)),
                  "c": ((1, 0, 0), (0, 1, 0), (0, 1, 0))}
        self.assertEqual(caught(solve, tables, steps), (NoRow, 1))
        self.assertEqual(solve({**tables, "a": ((1, 0, 0), (0, 1, 0), (0, 1, 0))}, steps),
                         ((1, 0, 0), (0, 1, 0), (0, 1, 0)))
        self.assertEqual(caught(solve, {**tables, "c": ((1, 0, 0), (0, 1, 0), (0, 0, 1))}, steps), (ManyRows, 0))


class Errors(unittest.TestCase):
    GOOD = {"a": ((1, 0), (1, 1)), "b": ((0, Ratio(1, 2)), (1, 0)), "ab": ((0, 1), (1, 1))}
    STEPS = (on("a"), back("b"), on("ab"))

    def test_no_dict(self):
        for thing in strange_things() + [{}, [self.GOOD], tuple(self.GOOD.items()), "a"]:
            if isinstance(thing, dict) and thing:
                continue
            for steps in (self.STEPS, None):
                self.assertEqual(caught(solve, thing, steps), (BadTables, -1))

    def test_wrong_items(self):
        rows = list(self.GOOD.items())
        wrong = [(key, self.GOOD["a"]) for key in (None, True, 0, "", "A", "a" * 13, "a b", (), ("a",))]
        row = (0, 1)
        wrong += [("c", thing) for thing in [(), (row,), (row, row, row), [row, row], (row, [0, 1]), (row, (0,)),
                                             (row, (0, True)), (row, (0, None)), (row, (0, "1")), None, ((1,),),
                                             ((0, 0, 0),) * 3] + strange_things()]
        for key, table in wrong:
            for at in (1, 2, 3):
                tables = dict(rows[:at] + [(key, table)] + rows[at:])
                self.assertEqual(caught(solve, tables, self.STEPS), (BadTables, key))
                self.assertEqual(caught(solve, {**tables, "z": None, None: 0}, 5), (BadTables, key))
        self.assertEqual(caught(solve, {"a": ((0,) * 11,) * 11}, (on("a"),)), (BadTables, "a"))
        self.assertEqual(caught(solve, {"a": ((0,),), **{"b": self.GOOD["a"]}}, self.STEPS), (BadTables, "b"))

    def test_rule(self):
        every = {watch: self.GOOD["a"] for watch in ("a", "b", "ab", "aa")}
        for thing in strange_things() + NO_RULES:
            kind, value = caught(solve, every, thing)
            self.assertIs(kind, BadRule, thing)
            self.assertIs(value, thing)
        for steps in ((on("c"),), (on("c"), on("a")), (on("a"), on("c")), (on("a"), back("c"), on("a")), (on("aaa"),)):
            kind, value = caught(solve, every, steps)
            self.assertIs(kind, BadRule)
            self.assertIs(value, steps)

    def test_greatest_table(self):
        unit = tuple(tuple(1 if p == q else 0 for q in range(10)) for p in range(10))
        self.assertEqual(solve({"a": unit}, (on("a"), back("a"), on("a"))), unit)


if __name__ == "__main__":
    unittest.main()
