import unittest
from random import Random

from tests.support import caught, strange_things
from watchedways.books import Book
from watchedways.errors import BadBook, BadPart, BadTimes
from watchedways.far import far_told, powers


def goes_through(watches, word):
    """Whether one comes from the begin of the word to its end, going on from spot to spot."""
    reached, ring = {0}, [0]
    while ring:
        here = ring.pop()
        for watch in watches:
            for there, piece in ((here + len(watch), word[here:here + len(watch)]),
                                 (here - len(watch), word[max(0, here - len(watch)):here])):
                if piece == watch and there not in reached:
                    reached.add(there)
                    ring.append(there)
    return len(word) in reached


def flag_in(found, times):
    """The flag of so many times, as [26] reads the two lists."""
    ahead, again = found
    return ahead[times - 1] if times <= len(ahead) else again[(times - 1 - len(ahead)) % len(again)]


def drawn(chance, letters, least, most):
    return "".join(chance.choice(letters) for _ in range(chance.randint(least, most)))


def cases(many):
    """Watches, most of them pieces of the far words, and the three parts."""
    chance = Random(261)
    for at in range(many):
        letters = ["a", "ab", "ab", "abc"][at % 4]
        most = [20, 4, 2, 1][at // 4 % 4]
        before, behind = drawn(chance, letters, 0, [0, 20, 3][at % 3]), drawn(chance, letters, 0, [20, 0, 3][at % 3])
        middle = drawn(chance, letters, 1, most)
        word = before + middle * 13 + behind
        watches = set()
        for _ in range(chance.randint(1, 7)):
            begin = chance.randrange(len(word))
            watches.add(word[begin:begin + chance.choice([1, 2, 3, 5, 7, 11, 12])])
        yield sorted(watches), before, middle, behind


class Powers(unittest.TestCase):
    def test_ordinary(self):
        self.assertEqual(powers(Book(["aa"]), "", "a", ""), ([], [False, True]))
        self.assertEqual(powers(Book(["aa"]), "a", "a", ""), ([], [True, False]))
        self.assertEqual(powers(Book(["ab"]), "", "ab", ""), ([], [True]))
        self.assertEqual(powers(Book(["ab"]), "", "ba", ""), ([], [False]))
        self.assertEqual(powers(Book(["ab"]), "a", "ba", "b"), ([], [True]))
        self.assertEqual(powers(Book(["aaa", "aaaa"]), "", "a", ""), ([False, False], [True]))
        self.assertEqual(powers(Book([]), "a", "b", "c"), ([], [False]))
        self.assertEqual(powers(Book(["ab", "abab", "c"]), "", "ab", "c"), ([], [True]))
        self.assertEqual(powers(Book(["aabc"]), "a", "a", "bc"), ([True], [False]))

    def test_against_going_through(self):
        kinds = {}
        for watches, before, middle, behind in cases(420):
            book = Book(watches)
            found = powers(book, before, middle, behind)
            self.assertIs(type(found), tuple)
            self.assertEqual([type(rows) for rows in found], [list, list])
            for times in range(1, 41):
                wanted = goes_through(watches, before + middle * times + behind)
                self.assertIs(flag_in(found, times), wanted, (watches, before, middle, behind, times))
                if times % 13 == 0 or times < 3:
                    self.assertIs(far_told(book, before, middle, behind, times), wanted)
            kinds[len(found[0]) > 0, len(found[1])] = True
        self.assertGreater(len(kinds), 6)

    def test_as_short_as_can_be(self):
        for watches, before, middle, behind in cases(420):
            ahead, again = powers(Book(watches), before, middle, behind)
            self.assertTrue(again)
            for size in range(1, len(again)):
                self.assertNotEqual(again * size, again[:size] * len(again), (watches, before, middle, behind))
            if ahead:
                self.assertIsNot(ahead[-1], again[-1])

    def test_far_out(self):
        for watches, before, middle, behind in list(cases(420))[::60]:
            ahead, again = powers(Book(watches), before, middle, behind)
            for times in range(len(ahead) + 1, len(ahead) + 2 * len(again) + 2):
                told = goes_through(watches, before + middle * times + behind)
                self.assertIs(flag_in((ahead, again), times), told)
                later = times + len(again) * (10 ** 28 // len(again))
                self.assertIs(far_told(Book(watches), before, middle, behind, later), told)

    def test_back_over_many_middles(self):
        # Only far from the begin one gets on, and from there back over it.
        for watches in (["a" * 12, "a" * 11], ["a" * 12, "a" * 7], ["a" * 11, "a" * 5, "b"], ["a" * 12, "a" * 9, "a" * 10]):
            for middle, behind in (("a", ""), ("a", "b"), ("aa", ""), ("aaa", "a"), ("a" * 20, "a" * 20)):
                found = powers(Book(watches), "", middle, behind)
                for times in range(1, 61):
                    self.assertIs(flag_in(found, times), goes_through(watches, middle * times + behind))
        found = powers(Book(["a" * 12, "a" * 7]), "", "a", "")
        self.assertEqual(found, ([at in (7, 12, 14) for at in range(1, 16)], [True]))

    def test_zigzags_over_what_stands_ahead(self):
        watches = ["cab", "ab", "caba", "ba", "abab", "b"]
        for before in ("c", "ca", "cab", "cc", ""):
            for behind in ("", "a", "aba", "c"):
                found = powers(Book(watches), before, "ab", behind)
                for times in range(1, 31):
                    self.assertIs(flag_in(found, times), goes_through(watches, before + "ab" * times + behind))

    def test_longest_parts_and_words(self):
        chance = Random(262)
        for _ in range(20):
            before, middle, behind = (drawn(chance, "ab", 20, 20) for _ in range(3))
            word = before + middle * 3 + behind
            watches = {word[at:at + 12] for at in chance.sample(range(len(word) - 12), 6)}
            watches |= {word[at:at + 5] for at in chance.sample(range(len(word) - 5), 6)}
            watches = sorted(watches)[:12]
            found = powers(Book(watches), before, middle, behind)
            for times in range(1, 31):
                self.assertIs(flag_in(found, times), goes_through(watches, before + middle * times + behind))

    def test_lists_are_new(self):
        book = Book(["aaa", "aaaa"])
        for rows in powers(book, "", "a", ""):
            rows.clear()
        self.assertEqual(powers(book, "", "a", ""), ([False, False], [True]))

    def test_greatest_times(self):
        book = Book(["aaa"])
        self.assertIs(far_told(book, "", "a", "", 10 ** 30), False)
        self.assertIs(far_told(book, "", "a", "", 10 ** 30 - 1), True)
        self.assertIs(far_told(book, "aa", "a", "", 10 ** 30), True)
        self.assertIs(far_told(book, "", "aa", "aa", 10 ** 30 - 2), True)
        self.assertIs(far_told(book, "", "aa", "aa", 10 ** 30 - 1), False)
        self.assertIs(far_told(book, "", "aa", "aa", 10 ** 30 - 8), True)


class Errors(unittest.TestCase):
    def test_books(self):
        for thing in strange_things():
            if not isinstance(thing, Book):
                for call, given in ((powers, ("", "a", "")), (far_told, ("", "a", "", 1)), (powers, (None, None, None))):
                    kind, value = caught(call, thing, *given)
                    self.assertIs(kind, BadBook)
                    self.assertIs(value, thing)

    def test_parts(self):
        book = Book(["a"])
        for thing in strange_things() + ["a" * 21, "aA", "a b", b"a", ("a",)]:
            for call, last in ((powers, ()), (far_told, (None,)), (far_told, (1,))):
                if thing != "":
                    kind, value = caught(call, book, thing, None, None, *last)
                    self.assertIs(kind, BadPart)
                    self.assertIs(value, thing)
                    kind, value = caught(call, book, "", "a", thing, *last)
                    self.assertIs(kind, BadPart)
                    self.assertIs(value, thing)
                kind, value = caught(call, book, "a" * 20, thing, None, *last)
                self.assertIs(kind, BadPart)
                self.assertIs(value, thing)
        self.assertEqual(powers(book, "a" * 20, "a" * 20, "a" * 20), ([], [True]))
        self.assertEqual(powers(book, "", "b" * 20, ""), ([], [False]))

    def test_times(self):
        for times in strange_things() + [0, -1, 10 ** 30 + 1, -10 ** 30, 1.0, "1"]:
            if type(times) is int and 1 <= times <= 10 ** 30:
                self.assertIs(far_told(Book(["a"]), "", "a", "", times), True)
                continue
            kind, value = caught(far_told, Book(["a"]), "", "a", "", times)
            self.assertIs(kind, BadTimes)
            self.assertIs(value, times)


if __name__ == "__main__":
    unittest.main()
