import unittest

from tests.support import caught, strange_things
from watchedways.books import Book
from watchedways.errors import BadWatch, BadWatches

TWELVE = ["a" * size for size in range(1, 13)]


class MadeBooks(unittest.TestCase):
    def test_watches_in_the_order_given(self):
        for row in ([], ["a"], ["b", "a"], ["ab", "b", "aab", "a"], TWELVE, TWELVE[::-1]):
            self.assertEqual(Book(row).watches, tuple(row))
            self.assertEqual(Book(tuple(row)).watches, tuple(row))
            self.assertIsInstance(Book(row).watches, tuple)

    def test_row_is_copied_and_not_changed(self):
        row = ["a", "b"]
        book = Book(row)
        self.assertEqual(row, ["a", "b"])
        row[0] = "c"
        row.append("d")
        self.assertEqual(book.watches, ("a", "b"))
        self.assertTrue(book.has("a"))
        self.assertFalse(book.has("d"))

    def test_sizes_of_rows(self):
        self.assertEqual(len(Book(TWELVE).watches), 12)
        for row in (TWELVE + ["b"], TWELVE + ["b", "c"], ["a"] * 13, [None] * 13, tuple(TWELVE) + ("b",)):
            self.assertEqual(caught(Book, row), (BadWatches, -1))

    def test_no_row(self):
        for thing in strange_things() + ["ab", {"ab"}, iter(["a"])]:
            if not isinstance(thing, (list, tuple)):
                with self.subTest(thing=thing):
                    self.assertEqual(caught(Book, thing), (BadWatches, -1))

    def test_sizes_of_watches(self):
        for size in (1, 11, 12):
            self.assertEqual(Book(["b", "a" * size]).watches, ("b", "a" * size))
        for size in (0, 13, 14, 40):
            self.assertEqual(caught(Book, ["b", "a" * size]), (BadWatches, 1))

    def test_first_wrong_item(self):
        for at in range(12):
            for wrong in strange_things():
                row = TWELVE[:]
                row[at] = wrong
                self.assertEqual(caught(Book, row), (BadWatches, at))
        self.assertEqual(caught(Book, ["a", 1, "", "a"]), (BadWatches, 1))

    def test_watch_twice(self):
        for first in range(11):
            for second in range(first + 1, 12):
                row = TWELVE[:]
                row[second] = row[first]
                self.assertEqual(caught(Book, row), (BadWatches, second))
        self.assertEqual(caught(Book, ["a", "b", "b", "a"]), (BadWatches, 2))
        self.assertEqual(caught(Book, ["a", "b", "a", "b", None]), (BadWatches, 2))
        self.assertEqual(caught(Book, ["a", None, "a"]), (BadWatches, 1))


class Agreeable:
    """A thing that says of everything that it is equal to it."""

    def __eq__(self, other):
        return True


class EqualBooks(unittest.TestCase):
    def test_same_watches_in_any_order(self):
        self.assertTrue(Book(["a", "b", "ab"]) == Book(("ab", "a", "b")))
        self.assertFalse(Book(["a", "b", "ab"]) != Book(("ab", "a", "b")))
        self.assertTrue(Book([]) == Book(()))

    def test_other_watches(self):
        for row in ([], ["a"], ["b"], ["a", "c"], ["a", "b", "c"], ["ab"], ["a", "bb"]):
            self.assertFalse(Book(["a", "b"]) == Book(row))
            self.assertTrue(Book(["a", "b"]) != Book(row))

    def test_nothing_else(self):
        for thing in [None, True, ["a"], ("a",), "a", {"a": 1}, {"a"}, object(), Book, 0]:
            self.assertIs(Book(["a"]) == thing, False)
            self.assertIs(thing == Book(["a"]), False)
            self.assertIs(Book(["a"]) != thing, True)
        self.assertIs(Book([]) == (), False)
        self.assertIs(Book([]) == [], False)
        self.assertIs(Book([]) == None, False)  # noqa: E711

    def test_nothing_that_says_so_of_itself(self):
        self.assertIs(Book(["a"]) == Agreeable(), False)


class AskedBooks(unittest.TestCase):
    def test_has(self):
        book = Book(["b", "ab"])
        for watch, is_one in (("b", True), ("ab", True), ("a", False), ("ba", False), ("abb", False)):
            self.assertIs(book.has(watch), is_one)
        for thing in strange_things() + [Agreeable()]:
            self.assertIs(book.has(thing), False)
        self.assertIs(Book([]).has("a"), False)

    def test_with_watch(self):
        book = Book(["b", "a"])
        more = book.with_watch("ab")
        self.assertIsInstance(more, Book)
        self.assertEqual(more.watches, ("b", "a", "ab"))
        self.assertEqual(book.watches, ("b", "a"))
        self.assertEqual(Book([]).with_watch("a").watches, ("a",))
        self.assertEqual(Book(TWELVE[:11]).with_watch("a" * 12).watches, tuple(TWELVE))

    def test_with_wrong_watch(self):
        for wrong in strange_things() + ["a", "b", "a" * 13]:
            self.assertEqual(caught(Book(["b", "a"]).with_watch, wrong), (BadWatches, 2))
        self.assertEqual(caught(Book([]).with_watch, ""), (BadWatches, 0))

    def test_with_watch_too_many(self):
        for watch in ("b", "a", "", None):
            self.assertEqual(caught(Book(TWELVE).with_watch, watch), (BadWatches, -1))

    def test_without_watch(self):
        book = Book(["b", "a", "ab"])
        for watch, left in (("b", ("a", "ab")), ("a", ("b", "ab")), ("ab", ("b", "a"))):
            less = book.without_watch(watch)
            self.assertIsInstance(less, Book)
            self.assertEqual(less.watches, left)
        self.assertEqual(book.watches, ("b", "a", "ab"))
        self.assertEqual(Book(["a"]).without_watch("a").watches, ())

    def test_without_wrong_watch(self):
        for wrong in strange_things() + ["b", "aa"]:
            kind, value = caught(Book(["a", "ab"]).without_watch, wrong)
            self.assertIs(kind, BadWatch)
            self.assertIs(value, wrong)
        self.assertEqual(caught(Book([]).without_watch, "a"), (BadWatch, "a"))


if __name__ == "__main__":
    unittest.main()
