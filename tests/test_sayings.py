import re
import time
import unittest

from tests.support import LONG_BOOKS, LONG_WORDS, caught, small_cases, strange_things
from tests.test_rules import DOCUMENT_RULE, EIGHTY, NO_RULES, back, on
from watchedways.books import Book
from watchedways.errors import BadRule, BadText
from watchedways.rules import calm_rule, rule
from watchedways.sayings import read_rule, read_saying, saying, write_rule

DOCUMENT_SAYING = "some p1: aaaa(x, p1) and all p2: if aaa(p2, p1) then aaaa(p2, y)"
NO_STRINGS = [thing for thing in strange_things() if not isinstance(thing, str)] + [b"on a", ["on a"], ("on a",)]


def many_rules():
    found = [
        (on("a"),), (on("abcdefghijkl"),), DOCUMENT_RULE, EIGHTY, (on("a"),) * 80, (on("a"), back("b"), on("c")),
        (on("a"), back("b"), back("c"), on("d")), (on("on"), back("back"), on("on")),
        # Watches that are the words of a saying themselves.
        (on("some"), back("all"), on("if"), back("then"), on("and"), back("if"), on("x"), back("p"), on("y")),
        (on("if"),), (on("all"),), (on("all"), on("if")), (on("zz"),) + (back("if"),) * 78 + (on("y"),),
    ]
    for watches, word in small_cases() + [(watches, word) for watches in LONG_BOOKS for word in LONG_WORDS]:
        for call in (rule, calm_rule):
            made = call(Book(watches), word)
            if made is not None and made not in found:
                found.append(made)
    return found


def changes_of(text):
    """The texts that differ from it at one place."""
    for at in range(len(text) + 1):
        for sign in "a1p xy(:,)\n\tZ~\u00e9":
            yield text[:at] + sign + text[at:]
            if at < len(text):
                yield text[:at] + sign + text[at + 1:]
        if at < len(text):
            yield text[:at] + text[at + 1:]
            yield text[:at]
            yield text[:at] + text[at:at + 2][::-1] + text[at + 2:]


class WrittenRules(unittest.TestCase):
    def test_examples(self):
        self.assertEqual(write_rule(DOCUMENT_RULE), "on aaaa\nback aaa\non aaaa")
        self.assertEqual(write_rule((on("b"),)), "on b")
        self.assertEqual(read_rule("on aaaa\nback aaa\non aaaa"), DOCUMENT_RULE)
        self.assertEqual(read_rule("on abcdefghijkl"), (on("abcdefghijkl"),))

    def test_there_and_back(self):
        for made in many_rules():
            text = write_rule(made)
            self.assertEqual(text, "\n".join(" ".join(step) for step in made))
            answer = read_rule(text)
            self.assertEqual(answer, made)
            self.assertTrue(isinstance(answer, tuple) and all(isinstance(step, tuple) for step in answer))

    def test_wrong_rows(self):
        for wrong in ("", " ", "on", "on ", "back", "back ", "on  a", " on a", "on a ", "on a b", "On a", "on A",
                      "on a1", "a", "on a\r", "\ton a", "on\ta", "on a\t", "off a", "on " + "a" * 13, "back a-b",
                      "on \u00e9", "ona", "on,a", "back back back", "('on', 'a')", "on a."):
            for at in range(4):
                rows = ["on a", "back a", "on a", "on b"]
                rows[at] = wrong
                self.assertEqual(caught(read_rule, "\n".join(rows)), (BadText, at))
                self.assertEqual(caught(read_rule, "\n".join(rows[:at] + [wrong, "", "!"])), (BadText, at))

    def test_empty_rows(self):
        self.assertEqual(caught(read_rule, ""), (BadText, 0))
        self.assertEqual(caught(read_rule, "\n"), (BadText, 0))
        self.assertEqual(caught(read_rule, "on a\n"), (BadText, 1))
        self.assertEqual(caught(read_rule, "\non a"), (BadText, 0))
        self.assertEqual(caught(read_rule, "on a\n\non a"), (BadText, 1))

    def test_steps_that_are_no_rule(self):
        for text, many in (("back a", 1), ("on a\nback a", 2), ("back a\non a", 2), ("on a\non a\nback b", 3)):
            self.assertEqual(caught(read_rule, text), (BadText, many))
        self.assertEqual(read_rule("\n".join(["on a"] * 80)), (on("a"),) * 80)
        for many in (81, 82, 2000):
            self.assertEqual(caught(read_rule, "\n".join(["on a"] * many)), (BadText, many))
        self.assertEqual(caught(read_rule, "\n".join(["on a"] * 100 + ["on"])), (BadText, 100))
        self.assertEqual(caught(read_rule, "\n".join(["back a"] * 3 + ["x"] * 3)), (BadText, 3))

    def test_changes(self):
        for made in ((on("ab"),), (on("a"), back("bb"), on("c"))):
            for text in changes_of(write_rule(made)):
                rows = text.split("\n")
                wrong = [at for at, row in enumerate(rows) if not re.fullmatch("(on|back) [a-z]{1,12}", row)]
                if wrong:
                    self.assertEqual(caught(read_rule, text), (BadText, wrong[0]))
                elif rows[0][:2] != "on" or rows[-1][:2] != "on":
                    self.assertEqual(caught(read_rule, text), (BadText, len(rows)))
                else:
                    self.assertEqual(read_rule(text), tuple(tuple(row.split(" ")) for row in rows))


class Sayings(unittest.TestCase):
    def test_examples(self):
        self.assertEqual(saying(DOCUMENT_RULE), DOCUMENT_SAYING)
        self.assertEqual(saying((on("ab"),)), "ab(x, y)")
        self.assertEqual(saying((on("a"), on("b"))), "some p1: a(x, p1) and b(p1, y)")
        self.assertEqual(
            saying((on("a"), back("b"), back("c"), on("d"))),
            "some p1: a(x, p1) and all p2: if b(p2, p1) then all p3: if c(p3, p2) then d(p3, y)")
        self.assertEqual(read_saying(DOCUMENT_SAYING), DOCUMENT_RULE)
        self.assertTrue(saying(EIGHTY).endswith(" and all p79: if a(p79, p78) then a(p79, y)"))

    def test_there_and_back(self):
        for made in many_rules():
            answer = read_saying(saying(made))
            self.assertEqual(answer, made)
            self.assertTrue(isinstance(answer, tuple) and all(isinstance(step, tuple) for step in answer))

    def test_changes(self):
        other = 0
        for made in (DOCUMENT_RULE, (on("ab"),), (on("if"), on("all"), back("a"), on("b"))):
            text = saying(made)
            for changed in changes_of(text):
                kind, value = caught(read_saying, changed)
                if kind is None:
                    # Another letter in a watch is another rule, whose saying this is.
                    self.assertEqual(saying(value), changed)
                    other += 1
                else:
                    self.assertEqual((kind, value), (BadText, -1))
            self.assertEqual(read_saying(text), made)
        self.assertGreater(other, 20)

    def test_wrong_sayings(self):
        for wrong in (
            "", " ", "ab", "ab(x,y)", "ab(x, y) ", " ab(x, y)", "ab(x, y)\n", "ab(y, x)", "ab(x, p1)", "AB(x, y)",
            "(x, y)", "a" * 13 + "(x, y)", "a b(x, y)", "ab(x, y)ab(x, y)", "ab(x, y) and ab(x, y)", "ab((x, y)",
            "some p1: a(x, p1) and b(p1, y) and ", "some p2: a(x, p2) and b(p2, y)", "some p1: a(x, p1) and b(x, y)",
            "some p01: a(x, p01) and b(p01, y)", "some q1: a(x, q1) and b(q1, y)", "some p1: a(x, p1) then b(p1, y)",
            "all p1: if a(p1, x) then b(p1, y)", "some p1: a(x, p1) and all p2: if b(p1, p2) then c(p2, y)",
            "some p1: a(x, p1) and all p2: b(p2, p1) then c(p2, y)", "all p1: if a(p1, y)", "some p1: a(x, p1)",
            "some p1: a(x, p1) and all p2: if b(p2, p1) and c(p2, y)", "some  p1: a(x, p1) and b(p1, y)",
            "some p1: a(x, p1) and  b(p1, y)", "some p1: a(x, p1) and some p1: b(p1, p1) and c(p1, y)", "on ab",
            "Some p1: a(x, p1) and b(p1, y)", "some p1 : a(x, p1) and b(p1, y)", "(" * 10000, "a(" * 5000,
            "some p1: a(x, p1) and all p2: if b(p2, p1) then all p3: if c(p3, p2)", "if a(x, y)", ": if a(x, y)",
        ):
            self.assertEqual(caught(read_saying, wrong), (BadText, -1))

    def test_more_than_eighty_steps(self):
        def long_saying(many):
            places = ["x"] + [f"p{at}" for at in range(1, many)] + ["y"]
            parts = [f"some {there}: a({here}, {there}) and " for here, there in zip(places, places[1:-1])]
            return "".join(parts) + f"a({places[-2]}, y)"

        self.assertEqual(read_saying(long_saying(80)), (on("a"),) * 80)
        for many in (81, 82, 300):
            self.assertEqual(caught(read_saying, long_saying(many)), (BadText, -1))


class WrongThings(unittest.TestCase):
    def test_no_rules(self):
        for wrong in strange_things() + NO_RULES:
            for call in (write_rule, saying):
                kind, value = caught(call, wrong)
                self.assertIs(kind, BadRule)
                self.assertIs(value, wrong)

    def test_no_strings(self):
        for wrong in NO_STRINGS + [(on("a"),)]:
            for call in (read_rule, read_saying):
                self.assertEqual(caught(call, wrong), (BadText, -1))

    def test_long_texts_take_no_time(self):
        begin = time.perf_counter()
        for text in ("on a\n" * 2000, "some p1: a(x, p1) and " * 450, "\n" * 10000, " " * 10000, "(" * 10000,
                     ": if " * 2000, "a" * 10000):
            for call in (read_rule, read_saying):
                self.assertIs(caught(call, text)[0], BadText)
        self.assertLess(time.perf_counter() - begin, 2)


if __name__ == "__main__":
    unittest.main()
