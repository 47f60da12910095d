import unittest
from itertools import product
from random import Random

from tests.support import caught, chain_tables, random_tongue, strange_things, texts_of, told
from watchedways.errors import BadSigns, BadWorth, TooMany
from watchedways.lengths import Lengths
from watchedways.numbers import Numbers
from watchedways.speaking import Tongues
from watchedways.tongues import Tongue, again, many_texts, tongue_of

SIZES = (("0", 12, 4), ("01", 5, 3), ("29", 5, 4), ("012", 3, 3))


def some_tongues(chance, signs, most):
    """Tongues of few states, among them the one without texts and that of all texts."""
    row = [0] * len(signs)
    found = [Tongue(signs, [row], []), Tongue(signs, [row], [0]), tongue_of(signs, [""]), tongue_of(signs, [signs])]
    return found + [random_tongue(chance, signs, most) for _ in range(5)]


def state_behind(tongue, text, state=0):
    for sign in text:
        state = tongue.moves[state][tongue.signs.index(sign)]
    return state


class OfTongues(unittest.TestCase):
    def pairs(self):
        """Each two of some tongues, with their reckoning and all short texts."""
        chance = Random(21)
        for signs, size, most in SIZES:
            texts = texts_of(signs, size)
            for one, other in product(some_tongues(chance, signs, most), repeat=2):
                yield Tongues(signs), one, other, texts

    def check(self, made, signs, texts, wanted):
        self.assertIs(type(made), Tongue)
        self.assertEqual(made.signs, signs)
        for text in texts:
            self.assertIs(made.has(text), bool(wanted(text)), text)

    def test_attributes(self):
        for signs in ("0", "9", "01", "27", "012"):
            tongues = Tongues(signs)
            self.assertEqual(tongues.signs, signs)
            self.check(tongues.none, signs, texts_of(signs, 5), lambda text: False)
            self.check(tongues.one, signs, texts_of(signs, 5), lambda text: text == "")
            self.check(tongues.greatest(), signs, texts_of(signs, 5), lambda text: True)
            self.assertEqual(tongues.none, tongue_of(signs, []))
            self.assertEqual(tongues.one, tongue_of(signs, [""]))
            self.assertEqual(tongues.greatest(), Tongue(signs, [[0] * len(signs)], [0]))

    def test_join_and_meet(self):
        for tongues, a, b, texts in self.pairs():
            self.check(tongues.join(a, b), tongues.signs, texts, lambda text: a.has(text) or b.has(text))
            self.check(tongues.meet(a, b), tongues.signs, texts, lambda text: a.has(text) and b.has(text))

    def test_times(self):
        for tongues, a, b, texts in self.pairs():
            self.check(
                tongues.times(a, b), tongues.signs, texts,
                lambda text: any(a.has(text[:at]) and b.has(text[at:]) for at in range(len(text) + 1)),
            )

    def test_left_and_right(self):
        for tongues, a, c, texts in self.pairs():
            # As many signs lead to every pair of states to which any text leads.
            size = len(a.moves) * len(c.moves) - 1
            begins = {}
            for text in texts_of(tongues.signs, min(size, 8)):
                begins.setdefault((state_behind(a, text), state_behind(c, text)), text)
            starts = {state for mate, state in begins if mate in a.ends}
            self.check(
                tongues.left(a, c), tongues.signs, texts,
                lambda text: all(state_behind(c, text, state) in c.ends for state in starts),
            )
        for tongues, a, c, texts in self.pairs():
            behind = [text for text in texts_of(tongues.signs, {1: 12, 2: 7, 3: 5}[len(tongues.signs)]) if a.has(text)]
            good = {state: all(state_behind(c, text, state) in c.ends for text in behind)
                    for state in range(len(c.moves))}
            self.check(tongues.right(c, a), tongues.signs, texts, lambda text: good[state_behind(c, text)])

    def test_left_and_right_are_the_greatest(self):
        chance = Random(22)
        for signs, _, most in SIZES:
            tongues, lots = Tongues(signs), some_tongues(chance, signs, most)
            for a, c in product(lots, repeat=2):
                left, right = tongues.left(a, c), tongues.right(c, a)
                self.assertTrue(tongues.beneath(tongues.times(a, left), c))
                self.assertTrue(tongues.beneath(tongues.times(right, a), c))
                for b in lots[:9]:
                    self.assertIs(tongues.beneath(b, left), tongues.beneath(tongues.times(a, b), c))
                    self.assertIs(tongues.beneath(b, right), tongues.beneath(tongues.times(b, a), c))

    def test_beneath(self):
        for tongues, a, b, texts in self.pairs():
            more = texts if len(tongues.signs) == 1 else texts_of(tongues.signs, {2: 8, 3: 6}[len(tongues.signs)])
            self.assertIs(tongues.beneath(a, b), all(b.has(text) for text in more if a.has(text)))
            self.assertIs(tongues.beneath(a, b), tongues.join(a, b) == b)

    def test_beneath_of_far_texts(self):
        def ring(many, ends):
            return Tongue("0", [[(at + 1) % many] for at in range(many)], ends)

        tongues = Tongues("0")
        # These have 197 and 199 states, and their join more than 200: beneath is told all the same.
        one, other = ring(61, [0]), ring(59, list(range(58)))
        self.assertIs(tongues.beneath(one, other), False)
        self.assertIs(tongues.beneath(ring(122, [0]), one), True)
        self.assertIs(tongues.beneath(one, ring(122, [0])), False)
        self.assertEqual(caught(tongues.join, one, other), (TooMany, None))
        self.assertEqual(caught(tongues.meet, one, other), (TooMany, None))

    def test_simple_answers(self):
        tongues = Tongues("01")
        none, one, every = tongues.none, tongues.one, tongues.greatest()
        a = tongue_of("01", ["0", "01", "11"])
        self.assertEqual(tongues.left(none, a), every)
        self.assertEqual(tongues.right(a, none), every)
        self.assertEqual((tongues.left(one, a), tongues.right(a, one)), (a, a))
        self.assertEqual((tongues.left(every, a), tongues.right(a, every)), (none, none))
        self.assertEqual((tongues.left(a, every), tongues.right(every, a)), (every, every))
        self.assertEqual((tongues.left(tongue_of("01", ["0"]), a)), tongue_of("01", ["", "1"]))
        self.assertEqual((tongues.right(a, tongue_of("01", ["1"]))), tongue_of("01", ["0", "1"]))
        self.assertEqual(tongues.left(tongue_of("01", ["0", "1"]), a), tongue_of("01", ["1"]))
        self.assertEqual(tongues.right(a, tongue_of("01", ["", "1"])), tongue_of("01", ["0"]))
        self.assertEqual(tongues.right(a, tongue_of("01", ["", "0"])), none)
        self.assertEqual((tongues.times(none, a), tongues.times(a, none), tongues.times(one, a)), (none, none, a))
        self.assertEqual((tongues.join(none, a), tongues.meet(every, a), tongues.meet(none, a)), (a, a, none))
        self.assertEqual(tongues.join(every, a), every)
        self.assertEqual(tongues.times(every, every), every)
        self.assertEqual(tongues.times(tongue_of("01", ["0"]), tongue_of("01", ["1"])), tongue_of("01", ["01"]))

    def test_laws(self):
        chance = Random(23)
        tongues = Tongues("01")
        for _ in range(60):
            a, b, c = [random_tongue(chance, "01", 3) for _ in range(3)]
            self.assertEqual(tongues.times(a, tongues.join(b, c)), tongues.join(tongues.times(a, b), tongues.times(a, c)))
            self.assertEqual(tongues.times(a, tongues.times(b, c)), tongues.times(tongues.times(a, b), c))
            self.assertEqual(tongues.left(tongues.times(a, b), c), tongues.left(b, tongues.left(a, c)))
            self.assertEqual(tongues.right(tongues.right(c, b), a), tongues.right(c, tongues.times(a, b)))


class Kinds(unittest.TestCase):
    def test_signs(self):
        for signs in strange_things() + ["", "10", "00", "0123", "a", "0a", " ", "0 "]:
            if signs != "1":
                kind, value = caught(Tongues, signs)
                self.assertIs(kind, BadSigns, signs)
                self.assertIs(value, signs)
        self.assertEqual([Tongues(signs).signs for signs in ("1", "09", "678")], ["1", "09", "678"])

    def test_is_worth(self):
        tongues = Tongues("01")
        for thing in strange_things() + [tongue_of(signs, []) for signs in ("0", "1", "02", "012", "01")]:
            good = type(thing) is Tongue and thing.signs == "01"
            self.assertIs(tongues.is_worth(thing), good)

    def test_wrong_worths(self):
        tongues, good = Tongues("01"), tongue_of("01", ["0"])
        calls = (tongues.beneath, tongues.join, tongues.times, tongues.meet, tongues.left, tongues.right)
        for wrong in strange_things() + [tongue_of(signs, ["0"]) for signs in ("0", "02", "012")]:
            if tongues.is_worth(wrong):
                continue
            for call in calls:
                for given in ((wrong, good), (good, wrong), (wrong, tongue_of("0", [])), (wrong, None)):
                    kind, value = caught(call, *given)
                    self.assertIs(kind, BadWorth)
                    self.assertIs(value, wrong)

    def test_equal(self):
        signs = ("0", "1", "01", "02", "12", "012")
        for one, other in product(signs, repeat=2):
            self.assertIs(Tongues(one) == Tongues(other), one == other)
            self.assertIs(Tongues(one) != Tongues(other), one != other)
        for thing in [None, 0, True, "01", [], (), {}, Lengths(), Numbers(), told(chain_tables(2)), [Tongues("01")],
                      tongue_of("01", [])]:
            self.assertIs(Tongues("01") == thing, False)
            self.assertIs(thing == Tongues("01"), False)


class Bounds(unittest.TestCase):
    def line(self, size):
        return Tongue("0", [[at + 1] for at in range(size + 1)] + [[size + 1]], [size])

    def test_too_many(self):
        tongues = Tongues("0")
        self.assertEqual(tongues.times(self.line(99), self.line(99)), self.line(198))
        self.assertEqual(caught(tongues.times, self.line(99), self.line(100)), (TooMany, None))
        self.assertEqual(tongues.left(self.line(99), self.line(198)), self.line(99))
        self.assertEqual(tongues.right(self.line(198), self.line(98)), self.line(100))
        self.assertEqual(tongues.left(self.line(198), self.line(99)), tongues.none)

    def test_many_lots_on_the_way(self):
        # Ends of a line of choices: 2 ** 10 lots come up, and all of them come to the same.
        tongues = Tongues("01")
        moves = [[at + 1, at + 1] for at in range(11)] + [[11, 11]]
        every = tongues.greatest()
        one = Tongue("01", moves, [9])
        for made in (tongues.times(every, one), tongues.times(one, every)):
            self.assertEqual([many_texts(made, size) for size in (8, 9, 10)], [0, 512, 1024])
        choice = tongues.times(every, tongues.times(tongue_of("01", ["1"]), Tongue("01", moves, [6])))
        self.assertEqual(len(choice.moves), 128)
        self.assertEqual(caught(tongues.times, choice, one)[0], TooMany)
        self.assertEqual(tongues.join(choice, again(tongue_of("01", ["0", "1"]))), every)
        self.assertEqual(tongues.times(tongues.join(choice, tongues.one), every), every)


if __name__ == "__main__":
    unittest.main()
