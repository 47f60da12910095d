import unittest
from math import gcd
from random import Random

from tests.support import caught, strange_things
from watchedways.books import Book
from watchedways.errors import BadLengths, BadTimes
from watchedways.lone import lone_gaps, lone_told
from watchedways.zigzags import is_told


def goes_to(lengths, last):
    """Whether one comes from 0 to the last spot, going from spot to spot."""
    reached, ring = {0}, [0]
    while ring:
        here = ring.pop()
        for length in lengths:
            for there in (here - length, here + length):
                if 0 <= there <= last and there not in reached:
                    reached.add(there)
                    ring.append(there)
    return last in reached


def rows_of_lengths():
    chance = Random(271)
    rows = [[1], [7], [60], [60, 59], [60, 58], [60, 1], [59, 60, 58], [6, 10, 15], [12, 18], [60] * 8, [7, 7], [5, 3, 5]]
    rows += [[59, 2, 4], [35, 6, 9], (31, 10, 20, 30), [2, 59, 4], [31, 60], [4, 6], (30, 60), [2, 60], list(range(53, 61)), [40, 41, 42], [13, 26, 39], [60, 60, 7]]
    for _ in range(60):
        most = chance.choice([5, 12, 30, 60])
        rows.append([chance.randint(1, most) for _ in range(chance.randint(1, 8))])
    return rows


class Told(unittest.TestCase):
    def test_ordinary(self):
        self.assertIs(lone_told([3, 4], 5), True)
        self.assertIs(lone_told([3, 5], 4), False)
        self.assertIs(lone_told((3, 4), 2), False)
        self.assertIs(lone_told([7], 21), True)
        self.assertIs(lone_told([7], 20), False)
        self.assertEqual(lone_gaps([3, 4]), [1, 2])
        self.assertEqual(lone_gaps([5, 7]), [1, 2, 3, 4, 6, 8])
        self.assertEqual(lone_gaps((6, 10, 15)), [1, 2, 3, 4, 5, 7, 8, 9, 11, 13])
        self.assertEqual(lone_gaps([12, 20]), [4, 8, 16])

    def test_against_going_from_spot_to_spot(self):
        for lengths in rows_of_lengths():
            shared = gcd(*lengths)
            flags = {last: goes_to(lengths, last) for last in range(1, 131)}
            for last in flags:
                self.assertIs(lone_told(lengths, last), flags[last], (lengths, last))
            self.assertEqual(lone_gaps(lengths), [
                last for last in flags if last % shared == 0 and not flags[last]
            ], lengths)

    def test_greater_ones(self):
        chance = Random(272)
        answers = {True: 0, False: 0}
        for lengths in rows_of_lengths():
            shared = gcd(*lengths)
            for last in [131, 200, 997, 10 ** 30, 10 ** 30 - 1, chance.randint(1, 10 ** 30), 60 * chance.randint(3, 10 ** 28)]:
                answers[last % shared == 0] += 1
                self.assertIs(lone_told(lengths, last), last % shared == 0)
            for last in range(100, 260):
                if last >= 131:
                    self.assertIs(lone_told(lengths, last), goes_to(lengths, last))
        self.assertGreater(min(answers.values()), 60)

    def test_against_books(self):
        for lengths in ([3, 5], [12, 11], [4, 6, 9], [2]):
            book = Book(["a" * length for length in lengths])
            for last in range(1, 41):
                self.assertIs(lone_told(lengths, last), is_told(book, "a" * last))

    def test_one_length_and_the_same_twice(self):
        for length in range(1, 61):
            for lengths in ([length], (length, length), [length] * 8):
                self.assertEqual(lone_gaps(lengths), [])
                for last in (1, length - 1, length, length + 1, 2 * length, 2 * length + 1, 10 ** 30 // length * length):
                    if last > 0:
                        self.assertIs(lone_told(lengths, last), last % length == 0)
        self.assertEqual(lone_gaps([5, 7, 5, 7]), lone_gaps([7, 5]))
        self.assertEqual(lone_gaps([60, 59]), lone_gaps([60, 60, 59, 60]))

    def test_most_gaps(self):
        self.assertEqual(lone_gaps([60, 59]), list(range(1, 59)))
        self.assertEqual(lone_gaps([31, 60])[-3:], [83, 85, 87])
        self.assertEqual(lone_gaps([60, 60, 59, 1]), [])

    def test_lists_are_new(self):
        lengths = [3, 4]
        lone_gaps(lengths).clear()
        self.assertEqual(lone_gaps(lengths), [1, 2])
        self.assertEqual(lengths, [3, 4])


class Errors(unittest.TestCase):
    def calls(self):
        return [lone_gaps, lambda lengths: lone_told(lengths, 5), lambda lengths: lone_told(lengths, None)]

    def test_no_row(self):
        for call in self.calls():
            for thing in strange_things() + [[], (), [1] * 9, (1,) * 9, [None] * 9, range(3), "123"]:
                if type(thing) not in (list, tuple) or not 1 <= len(thing) <= 8:
                    self.assertEqual(caught(call, thing), (BadLengths, -1))
        self.assertEqual(lone_gaps([1] * 8), [])

    def test_each_item(self):
        for call in self.calls():
            for thing in strange_things() + [61, 0, -5, 60.0, "5"]:
                if type(thing) is int and 1 <= thing <= 60:
                    continue
                for at in range(4):
                    lengths = [1, 60, 5][:at] + [thing] + [1, 60, 5][at:]
                    for given in (lengths, tuple(lengths), lengths + [0]):
                        self.assertEqual(caught(call, given), (BadLengths, at))

    def test_last(self):
        for last in strange_things() + [0, -1, 10 ** 30 + 1, 5.0, "5"]:
            if type(last) is int and 1 <= last <= 10 ** 30:
                self.assertIs(lone_told([1], last), True)
                continue
            kind, value = caught(lone_told, [1], last)
            self.assertIs(kind, BadTimes)
            self.assertIs(value, last)


if __name__ == "__main__":
    unittest.main()
