import unittest
from fractions import Fraction
from itertools import product
from random import Random

from tests.fractions_of import flat_of, fraction_rows, holds, led_back, led_on, shortest_of
from tests.support import caught, strange_things
from watchedways.errors import BadFlat, BadMany, BadRow, BadTable
from watchedways.flats import flat_back, flat_on, flat_through, is_in_flat
from watchedways.ratios import Ratio


def random_number(chance):
    """An integer or a Ratio, often 0."""
    return chance.choice([0, 0, 0, 1, 2, -1, Ratio(0), Ratio(1), Ratio(1, 2), Ratio(-2, 3), Ratio(5, 7), -10 ** 30])


def random_rows(chance, many, width):
    """Rows, some of which depend on the others."""
    rows = [[random_number(chance) for _ in range(width)] for _ in range(many)]
    for at in range(2, many, 3):
        rows[at] = [a + 2 * b for a, b in zip(rows[at - 1], rows[at - 2])]
    return rows


def random_flat(chance, width, many=None):
    many = chance.randint(0, width) if many is None else many
    return flat_through(width, random_rows(chance, 1, width)[0], random_rows(chance, many, width))


def random_numbers_table(chance, width, idle=0):
    """A table that leads nothing to some of its columns."""
    rows = random_rows(chance, width, width)
    return tuple(tuple(0 if at < idle else item for at, item in enumerate(row)) for row in rows)


def is_of_ratios(flat):
    row, rows = flat
    if type(flat) is not tuple or type(rows) is not tuple:
        return False
    return all(type(each) is tuple and all(type(item) is Ratio for item in each) for each in (row, *rows))


class Through(unittest.TestCase):
    def test_ordinary(self):
        self.assertEqual(flat_through(3, [1, 2, 3], []), ((1, 2, 3), ()))
        self.assertEqual(flat_through(3, [1, 2, 3], [[0, 2, 4]]), ((1, 0, -1), ((0, 1, 2),)))
        self.assertEqual(flat_through(3, [1, 2, 3], [[0, 0, 5], [2, 4, 5]]), ((0, 0, 0), ((1, 2, 0), (0, 0, 1))))
        self.assertEqual(flat_through(2, (0, 7), [(3, 1)]), ((0, 7), ((1, Ratio(1, 3)),)))
        self.assertEqual(flat_through(2, (1, 1), [[0, 0], (0, 0)]), ((1, 1), ()))

    def test_against_fractions(self):
        chance = Random(61)
        for width in (1, 2, 3, 5, 10):
            for _ in range(30):
                row, rows = random_rows(chance, 1, width)[0], random_rows(chance, chance.randint(0, 6), width)
                wanted = shortest_of(*fraction_rows([row]), fraction_rows(rows))
                for given in ((row, rows), (tuple(row), tuple(map(tuple, rows))), (row, tuple(rows[::-1])),
                              (tuple(row), [tuple(each) for each in rows] + rows[:2])):
                    flat = flat_through(width, *given)
                    self.assertEqual(flat_of(flat), wanted)
                    self.assertTrue(is_of_ratios(flat))

    def test_steps(self):
        chance = Random(62)
        for _ in range(100):
            width = chance.randint(1, 6)
            row, rows = random_flat(chance, width, chance.randint(0, 8))
            heads = []
            for each in rows:
                heads.append(next(at for at, item in enumerate(each) if item != 0))
                self.assertEqual(each[heads[-1]], 1)
            self.assertEqual(heads, sorted(set(heads)))
            for at, head in enumerate(heads):
                self.assertEqual(row[head], 0)
                self.assertTrue(all(each[head] == 0 for k, each in enumerate(rows) if k != at))

    def test_the_same_flat(self):
        chance = Random(63)
        for _ in range(40):
            width = chance.randint(1, 5)
            row, rows = random_rows(chance, 1, width)[0], random_rows(chance, 3, width)
            moved = [a + 3 * b - c for a, b, c in zip(row, rows[0], rows[1])]
            mixed = [[a - b for a, b in zip(rows[0], rows[1])], [Ratio(-5, 2) * a for a in rows[1]], rows[2],
                     [a + b for a, b in zip(rows[0], rows[2])]]
            self.assertEqual(flat_through(width, row, rows), flat_through(width, moved, mixed))

    def test_bounds_and_arguments(self):
        for width in (1, 10):
            unit = [[1 if at == k else 0 for at in range(width)] for k in range(width)]
            row = list(range(1, width + 1))
            self.assertEqual(flat_through(width, row, unit * (20 // width)), ((0,) * width, tuple(map(tuple, unit))))
            self.assertEqual((row, len(unit)), (list(range(1, width + 1)), width))
            self.assertTrue(is_of_ratios(flat_through(width, row, [])))
        self.assertEqual(flat_through(1, [5], [[0]] * 20), ((5,), ()))
        self.assertEqual(flat_through(1, [5], [[0]] * 19 + [[-3]]), ((0,), ((1,),)))
        long = 10 ** 199
        self.assertEqual(flat_through(2, [0, 1], [[Ratio(1, long), long]]), ((0, 1), ((1, long * long),)))

    def test_width(self):
        for width in strange_things() + [11, 0, -1, 1.0, "1"]:
            if type(width) is int and 1 <= width <= 10:
                continue
            for given in (([1], []), (None, None)):
                kind, value = caught(flat_through, width, *given)
                self.assertIs(kind, BadMany)
                self.assertIs(value, width)

    def wrong_rows(self, width):
        row = [1] * width
        good = [(1,) * width]
        found = [row[1:], row + [1], "1" * width, {k: 1 for k in range(width)}, row[1:] + [True], [None] + row[1:],
                 row[1:] + ["1"], row[1:] + [1.5], row[1:] + [(1,)], tuple(row[1:]) + (False,), None, 5, Ratio(1)]
        for thing in strange_things():
            if not isinstance(thing, (list, tuple)) or len(thing) != width:
                found.append(thing)
            elif not all(type(item) in (int, Ratio) for item in thing):
                found.append(thing)
        return [thing for thing in found if thing not in good]

    def test_wrong_row(self):
        for width in (1, 2, 3):
            for row in self.wrong_rows(width):
                for rows in ([], None, [None]):
                    kind, value = caught(flat_through, width, row, rows)
                    self.assertIs(kind, BadRow)
                    self.assertIs(value, row)

    def test_wrong_rows(self):
        for rows in strange_things() + [[[1, 1]] * 21, ([1, 1],) * 21, [None] * 21, "11", {0: [1, 1]}, 3]:
            if isinstance(rows, (list, tuple)) and len(rows) <= 20:
                continue
            kind, value = caught(flat_through, 2, [1, 1], rows)
            self.assertIs(kind, BadRow)
            self.assertIs(value, rows)

    def test_wrong_item(self):
        good = [[1, 0], (0, 1), [2, Ratio(1, 2)]]
        for item in self.wrong_rows(2):
            for at in range(4):
                rows = good[:at] + [item] + good[at:]
                for given in (rows, tuple(rows), rows + [[]]):
                    kind, value = caught(flat_through, 2, (1, 1), given)
                    self.assertIs(kind, BadRow)
                    self.assertIs(value, item)


class Led(unittest.TestCase):
    def test_on_and_back(self):
        chance = Random(64)
        empty = 0
        for width in (1, 2, 3, 4, 6):
            for _ in range(40):
                flat, table = random_flat(chance, width), random_numbers_table(chance, width, chance.randint(0, 1))
                on, back = flat_on(flat, table), flat_back(flat, table)
                rows = fraction_rows(table)
                self.assertEqual(flat_of(on), led_on(flat_of(flat), rows))
                self.assertEqual(flat_of(back), led_back(flat_of(flat), rows))
                self.assertTrue(is_of_ratios(on))
                if back is None:
                    empty += 1
                    continue
                self.assertTrue(is_of_ratios(back))
                # What is led back leads into the flat again, and what is led on comes from it.
                again = flat_on(back, table)
                self.assertTrue(is_in_flat(flat, again[0]))
                ahead = flat_back(on, table)
                self.assertTrue(is_in_flat(ahead, flat[0]))
        self.assertGreater(empty, 20)

    def test_small_rows(self):
        chance = Random(65)
        numbers = [0, 0, 1, -1, 2, Ratio(1, 2)]
        for _ in range(60):
            width = chance.randint(1, 3)
            table = tuple(tuple(chance.choice(numbers) for _ in range(width)) for _ in range(width))
            flat = flat_through(width, [chance.choice(numbers) for _ in range(width)],
                                [[chance.choice(numbers) for _ in range(width)] for _ in range(chance.randint(0, 2))])
            back = flat_back(flat, table)
            for row in product((-2, -1, 0, 1, 2), repeat=width):
                led = tuple(sum(row[k] * Fraction(table[k][q].top, table[k][q].bottom)
                                if isinstance(table[k][q], Ratio) else row[k] * table[k][q] for k in range(width))
                            for q in range(width))
                led = tuple(Ratio(Fraction(item).numerator, Fraction(item).denominator) for item in led)
                self.assertIs(is_in_flat(flat, led), back is not None and is_in_flat(back, row))

    def test_tables_that_lead_all_to_0(self):
        zeros = ((0, 0, 0),) * 3
        flat = flat_through(3, [1, 2, 3], [[0, 1, 1]])
        self.assertEqual(flat_on(flat, zeros), ((0, 0, 0), ()))
        self.assertIsNone(flat_back(flat, zeros))
        through = flat_through(3, [0, 2, 2], [[0, 1, 1]])
        self.assertEqual(flat_back(through, zeros), ((0, 0, 0), ((1, 0, 0), (0, 1, 0), (0, 0, 1))))
        self.assertEqual(flat_back(((0,), ()), ((0,),)), ((0,), ((1,),)))
        self.assertIsNone(flat_back(((1,), ()), ((0,),)))

    def test_no_row(self):
        table = ((1, 0), (2, 0))
        self.assertIsNone(flat_back(((0, 1), ()), table))
        self.assertEqual(flat_back(((6, 0), ()), table), ((0, 3), ((1, Ratio(-1, 2)),)))
        self.assertEqual(flat_back(((0, 1), ((1, 0),)), table), None)
        self.assertEqual(flat_back(((3, 0), ((0, 1),)), table), ((0, Ratio(3, 2)), ((1, Ratio(-1, 2)),)))

    def test_there_and_back(self):
        chance = Random(66)
        turns = ((0, 1, 0), (0, 0, Ratio(1, 3)), (-5, 0, 0))
        for _ in range(30):
            flat = random_flat(chance, 3)
            self.assertEqual(flat_back(flat_on(flat, turns), turns), flat)
            self.assertEqual(flat_on(flat_back(flat, turns), turns), flat)

    def test_widths(self):
        for width in (1, 10):
            unit = tuple(tuple(1 if at == k else 0 for at in range(width)) for k in range(width))
            row = tuple(range(width))
            for flat in ((row, ()), ((0,) * width, unit)):
                self.assertEqual((flat_on(flat, unit), flat_back(flat, unit)), (flat, flat))
                self.assertTrue(is_of_ratios(flat_on(flat, unit)))
                self.assertTrue(is_of_ratios(flat_back(flat, unit)))

    def test_ten_wide(self):
        chance = Random(67)
        for _ in range(5):
            flat, table = random_flat(chance, 10, 4), random_numbers_table(chance, 10)
            self.assertEqual(flat_of(flat_on(flat, table)), led_on(flat_of(flat), fraction_rows(table)))
            self.assertEqual(flat_of(flat_back(flat, table)), led_back(flat_of(flat), fraction_rows(table)))

    def test_arguments_stay(self):
        flat, table = ((1, 0), ((0, 1),)), ((1, 2), (3, 4))
        for call in (flat_on, flat_back):
            call(flat, table)
            self.assertEqual((flat, table), (((1, 0), ((0, 1),)), ((1, 2), (3, 4))))
            self.assertIs(type(flat[0][0]), int)


NO_FLATS = [
    ((1, 2),), ((1, 2), (), ()), [(1, 2), ()], ([1, 2], ()), ((1, 2), []), ((), ()), ((1,) * 11, ()),
    ((1, 2), ((0, 2),)), ((1, 2), ((0, 1),)), ((0, 1), ((1, 0), (1, 0))), ((0, 0), ((0, 1), (1, 0))),
    ((0, 0), ((0, 0),)), ((1, 0), ((0, 0),)), ((0, 0), ((1, 1), (0, 1))), ((0, 1), ((2, 0),)), ((0, 1), ((-1, 0),)),
    ((1, 1), ((1, 0),)), ((0, 1), ([1, 0],)), ((0, 1), ((1,),)), ((0, 1), ((1, 0, 0),)), ((0, 1), ((1, True),)),
    ((0, True), ((1, 0),)), ((0, None), ()), ((0, "1"), ()), ((0, 1), ((1, None),)), ((0, 1), (1, 0)), (0, 1),
    ((0, 1), None), (None, ()), ((0, 0), ((1, 0), (0, 1), (0, 0))), ((0, 0, 0), ((1, 0, 0), (0, 0, 1), (0, 1, 0))),
    ((0, 1), ((True, 0),)), ((Ratio(1, 2), 1), ((1, 0),)), ((0, 1), ((Ratio(1, 2), 0),)), ((0, 0), ((1, 0), (0, 2))),
]


class Wrong(unittest.TestCase):
    def test_flat(self):
        for thing in strange_things() + NO_FLATS:
            for given in ((thing, ((1, 0), (0, 1))), (thing, None)):
                for call in (flat_on, flat_back, is_in_flat):
                    kind, value = caught(call, *given)
                    self.assertIs(kind, BadFlat, thing)
                    self.assertIs(value, thing)

    def test_integers_in_flats(self):
        for flat in (((0, 1), ((1, 0),)), ((Ratio(0), 1), ((1, Ratio(0)),)), ((Ratio(0), Ratio(1)), ((Ratio(1), 0),))):
            self.assertEqual(flat_on(flat, ((1, 0), (0, 1))), ((0, 1), ((1, 0),)))
            self.assertIs(is_in_flat(flat, (5, 1)), True)

    def test_table(self):
        flat = ((0, 1), ((1, 0),))
        row = (0, 1)
        wrong = [(row,), (row, row, row), [row, row], (list(row), row), (row, [1, 0]), (row, (1,)), (row, (1, 2, 3)),
                 (row, (1, True)), (row, (1, None)), (row, ("1", 1)), ((1, 0, 0),) * 3, ((1,),), None, (row, "01")]
        for thing in wrong + strange_things():
            for call in (flat_on, flat_back):
                kind, value = caught(call, flat, thing)
                self.assertIs(kind, BadTable)
                self.assertIs(value, thing)


class InFlat(unittest.TestCase):
    def test_against_fractions(self):
        chance = Random(68)
        inside = 0
        for width in (1, 2, 3, 5):
            for _ in range(60):
                flat = random_flat(chance, width, chance.randint(0, 2))
                row = tuple(random_number(chance) for _ in range(width))
                mixed = flat[0]
                for other in flat[1]:
                    by = random_number(chance)
                    mixed = tuple(a + by * b for a, b in zip(mixed, other))
                self.assertIs(is_in_flat(flat, mixed), True)
                self.assertIs(is_in_flat(flat, list(mixed)), False)
                wanted = holds(flat_of(flat), fraction_rows([row])[0])
                inside += wanted
                self.assertIs(is_in_flat(flat, row), wanted)
        self.assertGreater(inside, 20)

    def test_every_kind_of_value(self):
        flat = ((0, 1), ((1, 0),))
        for thing in [(0, 1), (5, 1), (Ratio(1, 7), Ratio(1))]:
            self.assertIs(is_in_flat(flat, thing), True)
        for thing in strange_things() + [[0, 1], (0, True), (False, 1), (1,), (0, 1, 1), (0, 1, 0), (0, 2), (None, 1), ("0", 1),
                                         ((0, 1), ()), flat, (0, 1.0), "01", {0: 0, 1: 1}]:
            good = type(thing) is tuple and thing == (0, 1) and all(type(item) in (int, Ratio) for item in thing)
            self.assertIs(is_in_flat(flat, thing), good, thing)
        every = ((0,), ((1,),))
        for thing in strange_things() + [(1,), (0,), (Ratio(1, 2),), (True,), [1], 1, (0, 0)]:
            good = type(thing) is tuple and len(thing) == 1 and type(thing[0]) in (int, Ratio)
            self.assertIs(is_in_flat(every, thing), good)


if __name__ == "__main__":
    unittest.main()
