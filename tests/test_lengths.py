import unittest
from itertools import product

from tests.support import caught, chain_tables, strange_things, told
from watchedways.errors import BadWorth
from watchedways.lengths import Lengths

HUGE = 10 ** 300
WORTHS = [None, 0, 1, 2, 3, 5, 8, 13, HUGE, HUGE + 1, 2 * HUGE]


def as_numbers(*worths):
    """The worths with a number that is longer than all others in the place of no way."""
    return [10 ** 400 if worth is None else worth for worth in worths]


class LeastLengths(unittest.TestCase):
    def test_attributes(self):
        self.assertIsNone(Lengths().none)
        self.assertEqual(Lengths().one, 0)
        self.assertIs(type(Lengths().one), int)
        self.assertEqual(vars(Lengths()), {"none": None, "one": 0})

    def test_ordinary(self):
        lengths = Lengths()
        self.assertEqual((lengths.join(3, 5), lengths.join(5, 3), lengths.join(4, 4)), (3, 3, 4))
        self.assertEqual((lengths.join(None, 5), lengths.join(5, None), lengths.join(0, None)), (5, 5, 0))
        self.assertIsNone(lengths.join(None, None))
        self.assertEqual((lengths.times(3, 5), lengths.times(0, 0), lengths.times(HUGE, HUGE)), (8, 0, 2 * HUGE))
        for given in ((None, 5), (5, None), (None, None), (0, None), (None, 0)):
            self.assertIsNone(lengths.times(*given))
        self.assertEqual((lengths.meet(3, 5), lengths.meet(5, 3), lengths.meet(0, 0)), (5, 5, 0))
        for given in ((None, 5), (5, None), (None, None), (0, None), (None, 0)):
            self.assertIsNone(lengths.meet(*given))
        self.assertEqual(lengths.greatest(), 0)
        self.assertIs(type(lengths.greatest()), int)

    def test_beneath(self):
        lengths = Lengths()
        for a, b in product(WORTHS, repeat=2):
            one, other = as_numbers(a, b)
            self.assertIs(lengths.beneath(a, b), other <= one)
            self.assertIs(lengths.beneath(a, b), lengths.join(a, b) == b)
            self.assertIs(lengths.beneath(a, 0), True)
            self.assertIs(lengths.beneath(None, b), True)

    def test_left_and_right(self):
        lengths = Lengths()
        self.assertEqual((lengths.left(3, 5), lengths.right(5, 3)), (2, 2))
        self.assertEqual((lengths.left(5, 3), lengths.right(3, 5)), (0, 0))
        self.assertEqual((lengths.left(5, 5), lengths.right(5, 5)), (0, 0))
        self.assertEqual((lengths.left(1, HUGE), lengths.right(HUGE, 1)), (HUGE - 1, HUGE - 1))
        for c in WORTHS:
            self.assertEqual((lengths.left(None, c), lengths.right(c, None)), (0, 0))
        for a in WORTHS[1:]:
            self.assertIsNone(lengths.left(a, None))
            self.assertIsNone(lengths.right(None, a))

    def test_they_are_the_greatest(self):
        lengths, small = Lengths(), [None] + list(range(12))
        for a, c in product(small[:7], repeat=2):
            for answer, made in ((lengths.left(a, c), lambda b: lengths.times(a, b)),
                                 (lengths.right(c, a), lambda b: lengths.times(b, a))):
                fit = [b for b in small if lengths.beneath(made(b), c)]
                self.assertIn(answer, fit)
                self.assertTrue(all(lengths.beneath(b, answer) for b in fit))
            lower = [b for b in small if lengths.beneath(b, a) and lengths.beneath(b, c)]
            self.assertIn(lengths.meet(a, c), lower)
            self.assertTrue(all(lengths.beneath(b, lengths.meet(a, c)) for b in lower))

    def test_all_worths_with_numbers_of_any_size(self):
        lengths = Lengths()
        for a, b in product(WORTHS, repeat=2):
            one, other = as_numbers(a, b)
            self.assertEqual(as_numbers(lengths.join(a, b)), [min(one, other)])
            self.assertEqual(as_numbers(lengths.meet(a, b)), [max(one, other)])
            self.assertEqual(lengths.times(a, b), None if None in (a, b) else a + b)

    def test_is_worth(self):
        for thing in strange_things() + WORTHS + [-5, 1.0, "0", -HUGE]:
            good = thing is None or (type(thing) is int and thing >= 0)
            self.assertIs(Lengths().is_worth(thing), good)

    def test_wrong_worths(self):
        lengths = Lengths()
        calls = (lengths.beneath, lengths.join, lengths.times, lengths.meet, lengths.left, lengths.right)
        for wrong in strange_things() + [-1, -HUGE, 0.0, "1"]:
            if lengths.is_worth(wrong):
                continue
            for call in calls:
                for given in ((wrong, 0), (0, wrong), (None, wrong), (wrong, None), (wrong, -7)):
                    kind, value = caught(call, *given)
                    self.assertIs(kind, BadWorth)
                    self.assertIs(value, wrong)

    def test_equal(self):
        self.assertIs(Lengths() == Lengths(), True)
        self.assertIs(Lengths() != Lengths(), False)
        for thing in [None, 0, True, "lengths", [], (), {}, object(), Lengths, told(chain_tables(2)), [Lengths()]]:
            self.assertIs(Lengths() == thing, False)
            self.assertIs(thing == Lengths(), False)


if __name__ == "__main__":
    unittest.main()
