import unittest
from fractions import Fraction

from tests.support import caught, chain_tables, strange_things, told
from watchedways.errors import BadWorth
from watchedways.lengths import Lengths
from watchedways.numbers import Numbers
from watchedways.ratios import Ratio

PAIRS = [(0, 1), (1, 1), (3, 1), (-7, 1), (1, 2), (-3, 4), (5, 6), (10 ** 199, 3), (-1, 10 ** 199)]


class NumbersOfWays(unittest.TestCase):
    def worths(self):
        return [Ratio(top, bottom) for top, bottom in PAIRS] + [top for top, bottom in PAIRS if bottom == 1]

    def as_fraction(self, worth):
        return Fraction(worth.top, worth.bottom) if isinstance(worth, Ratio) else Fraction(worth)

    def test_attributes(self):
        for _ in range(2):
            numbers = Numbers()
            self.assertEqual([type(worth) for worth in (numbers.none, numbers.one)], [Ratio, Ratio])
            self.assertEqual((numbers.none.top, numbers.none.bottom), (0, 1))
            self.assertEqual((numbers.one.top, numbers.one.bottom), (1, 1))

    def test_nothing_else(self):
        for name in ("beneath", "meet", "greatest", "left", "right"):
            self.assertFalse(hasattr(Numbers(), name), name)

    def test_sums_and_products(self):
        numbers = Numbers()
        for a in self.worths():
            for b in self.worths():
                for made, wanted in ((numbers.join(a, b), self.as_fraction(a) + self.as_fraction(b)),
                                     (numbers.times(a, b), self.as_fraction(a) * self.as_fraction(b))):
                    self.assertIs(type(made), Ratio)
                    self.assertEqual((made.top, made.bottom), (wanted.numerator, wanted.denominator))

    def test_is_worth(self):
        for thing in strange_things() + self.worths() + [1.0, "1"]:
            good = type(thing) is int or type(thing) is Ratio
            self.assertIs(Numbers().is_worth(thing), good, thing)

    def test_wrong_worths(self):
        numbers = Numbers()
        for wrong in strange_things():
            if numbers.is_worth(wrong):
                continue
            for call in (numbers.join, numbers.times):
                for given in ((wrong, 0), (0, wrong), (Ratio(1, 2), wrong), (wrong, Ratio(1, 2)), (wrong, "b")):
                    kind, value = caught(call, *given)
                    self.assertIs(kind, BadWorth)
                    self.assertIs(value, wrong)

    def test_equal(self):
        self.assertIs(Numbers() == Numbers(), True)
        self.assertIs(Numbers() != Numbers(), False)
        for thing in [None, 0, True, Ratio(0), "numbers", [], (), {}, Lengths(), told(chain_tables(2)), [Numbers()]]:
            self.assertIs(Numbers() == thing, False)
            self.assertIs(thing == Numbers(), False)


if __name__ == "__main__":
    unittest.main()
