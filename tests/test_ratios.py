import unittest
from fractions import Fraction
from itertools import product

from tests.support import caught, strange_things
from watchedways.books import Book
from watchedways.errors import BadNumber
from watchedways.ratios import Ratio

BIG = 10 ** 199 + 7
INTEGERS = [-BIG, -12, -3, -2, -1, 0, 1, 2, 3, 4, 7, 12, BIG]
PAIRS = [(0, 1), (0, -5), (1, 2), (-1, 2), (1, -2), (6, 4), (-6, -4), (10, 5), (BIG, 3), (-3, BIG), (7, 1), (-12, 18)]


def plain(ratio):
    """The Ratio as one of Python's own fractions."""
    assert type(ratio) is Ratio and type(ratio.top) is int and type(ratio.bottom) is int
    made = Fraction(ratio.top, ratio.bottom)
    assert (made.numerator, made.denominator) == (ratio.top, ratio.bottom)
    return made


class Made(unittest.TestCase):
    def test_lowest_terms(self):
        for top, bottom in product(INTEGERS + list(range(-30, 31)), repeat=2):
            if bottom != 0:
                made = Ratio(top, bottom)
                wanted = Fraction(top, bottom)
                self.assertEqual((made.top, made.bottom), (wanted.numerator, wanted.denominator))

    def test_examples(self):
        for given, wanted in (((6, 4), (3, 2)), ((-6, 4), (-3, 2)), ((6, -4), (-3, 2)), ((-6, -4), (3, 2)),
                              ((0, -7), (0, 1)), ((5,), (5, 1)), ((0,), (0, 1)), ((-5,), (-5, 1))):
            made = Ratio(*given)
            self.assertEqual((made.top, made.bottom), wanted)

    def test_wrong_numbers(self):
        for wrong in strange_things() + [1.0, "1", Fraction(1)]:
            if type(wrong) is int:
                continue
            for given in ((wrong,), (wrong, 1), (wrong, 0), (wrong, None), (1, wrong), (0, wrong)):
                kind, value = caught(Ratio, *given)
                self.assertIs(kind, BadNumber)
                self.assertIs(value, wrong)
        self.assertEqual(caught(Ratio, 1, 0), (BadNumber, 0))
        self.assertEqual(caught(Ratio, 0, 0), (BadNumber, 0))
        self.assertEqual(caught(Ratio, None, 0), (BadNumber, None))


class Operators(unittest.TestCase):
    def test_two_ratios(self):
        for one, other in product(PAIRS, repeat=2):
            a, b = Ratio(*one), Ratio(*other)
            x, y = Fraction(*one), Fraction(*other)
            self.assertEqual((plain(a + b), plain(a - b), plain(a * b)), (x + y, x - y, x * y))
            self.assertEqual(plain(-a), -x)
            self.assertIs(a == b, x == y)
            self.assertIs(a != b, x != y)
            self.assertIs(a.less(b), x < y)
            if y != 0:
                self.assertEqual(plain(a.over(b)), x / y)
            self.assertEqual((plain(a), plain(b)), (x, y))

    def test_ratio_and_integer(self):
        for one, n in product(PAIRS, INTEGERS):
            a, x = Ratio(*one), Fraction(*one)
            self.assertEqual((plain(a + n), plain(a - n), plain(a * n)), (x + n, x - n, x * n))
            self.assertEqual((plain(n + a), plain(n - a), plain(n * a)), (n + x, n - x, n * x))
            self.assertIs(a == n, x == n)
            self.assertIs(n == a, x == n)
            self.assertIs(a != n, x != n)
            self.assertIs(a.less(n), x < n)
            if n != 0:
                self.assertEqual(plain(a.over(n)), x / n)
            self.assertEqual(plain(a), x)

    def test_other_things_are_no_operands(self):
        for wrong in (True, False, None, "1", 1.5, [], (1,), Book([])):
            for call in (lambda: Ratio(1) + wrong, lambda: wrong + Ratio(1), lambda: Ratio(1) - wrong,
                         lambda: wrong - Ratio(1), lambda: Ratio(1) * wrong, lambda: wrong * Ratio(1)):
                with self.assertRaises(TypeError):
                    call()

    def test_equal_to_nothing_else(self):
        self.assertIs(Ratio(1) == True, False)  # noqa: E712
        self.assertIs(True == Ratio(1), False)  # noqa: E712
        self.assertIs(Ratio(0) == False, False)  # noqa: E712
        self.assertIs(Ratio(0) != False, True)  # noqa: E712
        for thing in strange_things() + [1.0, 0.5, Fraction(1), Fraction(1, 2), "1/2", (1, 2), object(), Ratio]:
            if type(thing) is not int and not isinstance(thing, Ratio):
                for ratio in (Ratio(0), Ratio(1), Ratio(1, 2), Ratio(2)):
                    self.assertIs(ratio == thing, False)
                    self.assertIs(thing == ratio, False)


class Asked(unittest.TestCase):
    def test_over_wrong_things(self):
        zero = Ratio(0, 5)
        for wrong in [thing for thing in strange_things() if type(thing) is not int] + [0, zero, 1.0, Fraction(1)]:
            if isinstance(wrong, Ratio) and wrong.top != 0:
                continue
            kind, value = caught(Ratio(1, 2).over, wrong)
            self.assertIs(kind, BadNumber)
            self.assertIs(value, wrong)

    def test_less_than_wrong_things(self):
        for wrong in [thing for thing in strange_things() if type(thing) is not int] + [1.0, Fraction(1)]:
            if not isinstance(wrong, Ratio):
                kind, value = caught(Ratio(1, 2).less, wrong)
                self.assertIs(kind, BadNumber)
                self.assertIs(value, wrong)
        self.assertIs(Ratio(-1).less(0), True)
        self.assertIs(Ratio(0).less(0), False)
        self.assertIs(Ratio(0).less(Ratio(0)), False)

    def test_over(self):
        self.assertEqual(plain(Ratio(1, 2).over(Ratio(-3, 4))), Fraction(-2, 3))
        self.assertEqual(plain(Ratio(0).over(-7)), 0)


if __name__ == "__main__":
    unittest.main()
