import unittest
from itertools import product
from random import Random

from tests.support import caught, random_states, random_tongue, strange_things, texts_of
from watchedways.errors import (
    BadEnds, BadMany, BadMoves, BadSigns, BadText, BadTexts, BadTimes, BadTongue, TooMany,
)
from watchedways.tongues import Tongue, again, first_texts, many_texts, tongue_of, turned_tongue

WRONG_SIGNS = ["", "0123", "00", "10", "021", "0a", "a", " ", "0 ", "0\n", "-1", "0011", "011", "110"]
GOOD_SIGNS = ["0", "9", "01", "09", "59", "012", "789", "357"]


def is_good_signs(thing):
    return type(thing) is str and 1 <= len(thing) <= 3 and list(thing) == sorted(set(thing)) and thing.isdigit()


def led(signs, moves, ends, text):
    """Whether the text leads from 0 to an end."""
    state = 0
    for sign in text:
        state = moves[state][signs.index(sign)]
    return state in ends


def worked_form(signs, moves, ends):
    """The shortest form, found by comparing what is behind all short texts."""
    probes = texts_of(signs, len(moves) - 1)

    def behind(text):
        return tuple(led(signs, moves, ends, text + probe) for probe in probes)

    numbers, begins = {}, []
    for text in texts_of(signs, len(moves) - 1):
        if behind(text) not in numbers:
            numbers[behind(text)] = len(numbers)
            begins.append(text)
    kept = tuple(tuple(numbers[behind(text + sign)] for sign in signs) for text in begins)
    return kept, tuple(at for at, text in enumerate(begins) if led(signs, moves, ends, text))


def split_form(moves, ends):
    """The shortest form, found by splitting all classes again and again in rounds."""
    order = [0]
    for state in order:
        order += [there for there in dict.fromkeys(moves[state]) if there not in order]
    classes, many = {state: state in ends for state in order}, 0
    while many < len(set(classes.values())):
        many = len(set(classes.values()))
        names = {}
        classes = {state: names.setdefault((classes[state], *[classes[there] for there in moves[state]]), len(names))
                   for state in order}
    firsts = {}
    for state in order:
        firsts.setdefault(classes[state], state)
    kept = list(firsts)
    return (tuple(tuple(kept.index(classes[there]) for there in moves[firsts[name]]) for name in kept),
            tuple(at for at, name in enumerate(kept) if firsts[name] in ends))


def line_tongue(signs, size):
    """The tongue of all texts with just so many signs: it has size + 2 states."""
    many = len(signs)
    return Tongue(signs, [[at + 1] * many for at in range(size + 1)] + [[size + 1] * many], [size])


class Forms(unittest.TestCase):
    def test_ordinary(self):
        tongue = Tongue("01", [[1, 0], [1, 2], [1, 0]], [2])
        self.assertEqual((tongue.signs, tongue.moves, tongue.ends), ("01", ((1, 0), (1, 2), (1, 0)), (2,)))
        self.assertTrue(tongue.has("1101"))
        self.assertFalse(tongue.has("1100"))

    def test_kinds_of_rows(self):
        wanted = Tongue("01", [[1, 0], [1, 1]], [1])
        for moves in ([[1, 0], [1, 1]], ((1, 0), (1, 1)), [(1, 0), [1, 1]], ([1, 0], (1, 1))):
            for ends in ([1], (1,)):
                tongue = Tongue("01", moves, ends)
                self.assertEqual((tongue.moves, tongue.ends), (((1, 0), (1, 1)), (1,)))
                self.assertIs(tongue == wanted, True)
                self.assertIs(type(tongue.signs), str)

    def test_given_rows_stay_apart(self):
        moves, ends = [[1, 0], [1, 1]], [1]
        tongue = Tongue("01", moves, ends)
        self.assertEqual((moves, ends), ([[1, 0], [1, 1]], [1]))
        moves[0][0] = 0
        moves.append([0, 0])
        ends.clear()
        self.assertEqual((tongue.moves, tongue.ends, tongue.has("0")), (((1, 0), (1, 1)), (1,), True))

    def test_against_all_short_texts(self):
        chance = Random(6)
        for signs, most, times in (("0", 6, 80), ("01", 5, 200), ("27", 6, 60), ("012", 4, 60)):
            for _ in range(times):
                moves, ends = random_states(chance, signs, most)
                tongue = Tongue(signs, moves, ends)
                self.assertEqual((tongue.moves, tongue.ends), worked_form(signs, moves, ends), (signs, moves, ends))
                for text in texts_of(signs, 5 if len(signs) < 3 else 4):
                    self.assertIs(tongue.has(text), led(signs, moves, ends, text))

    def test_large_machines(self):
        chance = Random(17)
        sizes = {}
        for _ in range(300):
            signs, many = chance.choice(["0", "01", "012"]), chance.choice([10, 30, 100, 200])
            onward = chance.choice([(1, 1, 1, 2), (0, 1, 1), tuple(range(many))])
            moves = [[(state + chance.choice(onward)) % many for _ in signs] for state in range(many)]
            ends = sorted(chance.sample(range(many), chance.choice([1, 2, many // 2])))
            tongue = Tongue(signs, moves, ends)
            sizes[len(tongue.moves)] = True
            self.assertEqual((tongue.moves, tongue.ends), split_form(moves, ends))
        self.assertGreater(len(sizes), 20)

    def test_every_small_machine(self):
        for ends_flags in product((False, True), repeat=3):
            ends = [state for state in range(3) if ends_flags[state]]
            for flat in product(range(3), repeat=6):
                moves = [flat[0:2], flat[2:4], flat[4:6]]
                tongue = Tongue("01", moves, ends)
                if flat[0] <= flat[2]:
                    self.assertEqual((tongue.moves, tongue.ends), worked_form("01", moves, ends))

    def test_never_reached(self):
        moves = [[1, 0], [1, 1], [0, 2], [4, 3], [3, 2]]
        tongue = Tongue("01", moves, [1, 2, 4])
        self.assertEqual((tongue.moves, tongue.ends), (((1, 0), (1, 1)), (1,)))
        self.assertIs(tongue == Tongue("01", [[1, 0], [1, 1]], [1]), True)

    def test_numbered_otherwise(self):
        chance = Random(7)
        for _ in range(60):
            moves, ends = random_states(chance, "01", 9)
            names = [0] + chance.sample(range(1, len(moves)), len(moves) - 1)
            other = [None] * len(moves)
            for state, row in enumerate(moves):
                other[names[state]] = [names[there] for there in row]
            first, second = Tongue("01", moves, ends), Tongue("01", other, sorted(names[state] for state in ends))
            self.assertEqual((first.moves, first.ends), (second.moves, second.ends))
            self.assertIs(first == second, True)

    def test_standing_twice(self):
        chance = Random(8)
        for _ in range(60):
            moves, ends = random_states(chance, "012", 6)
            many = len(moves)
            twice = [[there + many * chance.randint(0, 1) for there in row] for row in moves + moves]
            tongue = Tongue("012", twice, ends + [state + many for state in ends])
            self.assertIs(tongue == Tongue("012", moves, ends), True)
            self.assertEqual(tongue.moves, Tongue("012", moves, ends).moves)

    def test_form_of_the_form(self):
        chance = Random(9)
        for _ in range(30):
            tongue = random_tongue(chance, "01", 200)
            other = Tongue("01", tongue.moves, tongue.ends)
            self.assertEqual((other.moves, other.ends), (tongue.moves, tongue.ends))

    def test_long_lines(self):
        for size in (0, 1, 50, 198):
            tongue = line_tongue("01", size)
            self.assertEqual(len(tongue.moves), size + 2)
            self.assertEqual(tongue.ends, (size,))
            self.assertTrue(tongue.has("10" * (size // 2) + "0" * (size % 2)))
        ring = Tongue("0", [[(at + 1) % 200] for at in range(200)], list(range(0, 200, 4)))
        self.assertEqual((ring.moves, ring.ends), (((1,), (2,), (3,), (0,)), (0,)))
        ring = Tongue("0", [[(at + 1) % 200] for at in range(200)], [199])
        self.assertEqual((len(ring.moves), ring.moves[199], ring.ends), (200, (0,), (199,)))

    def test_simplest(self):
        for signs in GOOD_SIGNS:
            row = (0,) * len(signs)
            none, every = Tongue(signs, [row], []), Tongue(signs, [row], [0])
            self.assertEqual((none.moves, none.ends, every.moves, every.ends), ((row,), (), (row,), (0,)))
            self.assertIs(none == every, False)


class Errors(unittest.TestCase):
    def test_signs(self):
        for signs in GOOD_SIGNS:
            self.assertEqual(Tongue(signs, [[0] * len(signs)], [0]).signs, signs)
            self.assertEqual(tongue_of(signs, []).signs, signs)
        for signs in strange_things() + WRONG_SIGNS:
            if is_good_signs(signs):
                continue
            for call, given in ((Tongue, ([[0]], [0])), (Tongue, (None, None)), (tongue_of, ([""],)), (tongue_of, (5,))):
                kind, value = caught(call, signs, *given)
                self.assertIs(kind, BadSigns, signs)
                self.assertIs(value, signs)

    def test_moves_that_are_no_row(self):
        for moves in strange_things() + [[], (), "00", {0: [0, 0]}, [[0, 0]] * 201, [None] * 201]:
            if type(moves) in (list, tuple) and 1 <= len(moves) <= 200:
                continue
            self.assertEqual(caught(Tongue, "01", moves, [0]), (BadMoves, -1))
            self.assertEqual(caught(Tongue, "01", moves, [None]), (BadMoves, -1))
        self.assertEqual(Tongue("01", [[0, 0]] * 200, [0]).moves, ((0, 0),))

    def test_wrong_row_of_moves(self):
        good = [[1, 2], [2, 0], [0, 1], [3, 3]]
        wrong = strange_things() + [[0], [0, 1, 2], [0, 4], [0, -1], [4, 0], [True, 0], [0, False], "01", [0, "1"],
                                    [0, None], [1.0, 0], {0: 0, 1: 1}]
        for at in range(4):
            for row in wrong:
                if type(row) in (list, tuple) and len(row) == 2 and all(type(to) is int and 0 <= to < 4 for to in row):
                    continue
                moves = good[:at] + [row] + good[at + 1:]
                self.assertEqual(caught(Tongue, "01", moves, [0]), (BadMoves, at), row)
                self.assertEqual(caught(Tongue, "01", tuple(moves), [9]), (BadMoves, at), row)
                for later in range(at + 1, 4):
                    twice = moves[:later] + [[]] + moves[later + 1:]
                    self.assertEqual(caught(Tongue, "01", twice, [0]), (BadMoves, at))

    def test_ends(self):
        moves = [[1, 2], [2, 0], [0, 1]]
        for ends in ([], [0], [2], [0, 1, 2], (0, 2)):
            self.assertIs(type(Tongue("01", moves, ends)), Tongue)
        for ends in strange_things() + [[1, 0], [0, 0], [0, 1, 1], [3], [-1], [0, 3], [True], [0, True], [None], "0",
                                        {0: True}, [0, 2, 1], [0.0], range(2), [0, 1, 2, 3]]:
            if type(ends) in (list, tuple) and all(type(end) is int for end in ends) and list(ends) == sorted(set(ends)):
                if not ends or 0 <= ends[0] <= ends[-1] <= 2:
                    continue
            kind, value = caught(Tongue, "01", moves, ends)
            self.assertIs(kind, BadEnds, ends)
            self.assertIs(value, ends)


class Equality(unittest.TestCase):
    def test_same_texts(self):
        chance = Random(10)
        lots = [random_tongue(chance, "01", 3) for _ in range(60)]
        texts = texts_of("01", 6)
        for one, other in product(lots, repeat=2):
            alike = all(one.has(text) == other.has(text) for text in texts)
            self.assertIs(one == other, alike)
            self.assertIs(one != other, not alike)

    def test_other_signs(self):
        for one, other in product(GOOD_SIGNS, repeat=2):
            first, second = tongue_of(one, [""]), tongue_of(other, [""])
            self.assertIs(first == second, one == other)

    def test_nothing_else(self):
        tongue = Tongue("01", [[0, 0]], [0])
        for thing in [None, 0, True, "01", "", [], (), ((0, 0),), {}, ("01", ((0, 0),), (0,)), object(), Tongue]:
            self.assertIs(tongue == thing, False)
            self.assertIs(thing == tongue, False)


class Has(unittest.TestCase):
    def test_every_kind_of_value(self):
        tongue = Tongue("13", [[1, 0], [0, 1]], [0])
        for text in texts_of("13", 5):
            self.assertIs(tongue.has(text), text.count("1") % 2 == 0)
        for thing in strange_things() + ["0", "2", "12", "1 ", "1\n", "11a", 1, 13, ["1"], ("1", "3"), {"1": 1}]:
            if thing in ("", "1"):
                continue
            kind, value = caught(tongue.has, thing)
            self.assertIs(kind, BadText, thing)
            self.assertIs(value, thing)

    def test_long_texts(self):
        tongue = Tongue("0", [[1], [2], [0]], [1])
        self.assertIs(tongue.has("0" * 10000), True)
        self.assertIs(tongue.has("0" * 10001), False)


class OfTexts(unittest.TestCase):
    def test_just_these_texts(self):
        chance = Random(11)
        for signs, most in (("0", 12), ("01", 6), ("012", 4)):
            texts = texts_of(signs, most)
            for _ in range(25):
                given = [chance.choice(texts) for _ in range(chance.randint(0, 20))]
                tongue = tongue_of(signs, tuple(given) if chance.random() < 0.5 else given)
                self.assertEqual([text for text in texts if tongue.has(text)], [t for t in texts if t in given])
                self.assertFalse(any(tongue.has(text) for text in texts_of(signs, 1) if text not in given))
                self.assertEqual(tongue, tongue_of(signs, given[::-1] + given[:1] if len(given) < 20 else given[::-1]))

    def test_nothing_behind(self):
        tongue = tongue_of("01", ["", "01", "011"])
        self.assertEqual([text for text in texts_of("01", 8) if tongue.has(text)], ["", "01", "011"])
        self.assertEqual((tongue_of("01", []).moves, tongue_of("01", []).ends), (((0, 0),), ()))
        self.assertEqual((tongue_of("01", [""]).moves, tongue_of("01", [""]).ends), (((1, 1), (1, 1)), (0,)))

    def test_greatest(self):
        chance = Random(12)
        for _ in range(10):
            given = ["".join(chance.choice("012") for _ in range(12)) for _ in range(20)]
            tongue = tongue_of("012", given)
            self.assertEqual(first_texts(tongue, 20), sorted(set(given)))
            self.assertLessEqual(len(tongue.moves), 200)

    def test_row_of_texts(self):
        for texts in strange_things() + ["01", "", ["0"] * 21, ("",) * 21, {"0": 1}, [None] * 21]:
            if type(texts) in (list, tuple) and len(texts) <= 20:
                continue
            self.assertEqual(caught(tongue_of, "01", texts), (BadTexts, -1))
        self.assertEqual(tongue_of("01", ["0"] * 20), tongue_of("01", ("0",)))

    def test_wrong_text(self):
        good = ["", "0", "01", "1" * 12]
        for thing in strange_things() + ["2", "02", "0" * 13, "1" * 40, 0, 1, ["0"], "0 ", "a"]:
            if thing in ("", "1"):
                continue
            for at in range(5):
                given = good[:at] + [thing] + good[at:]
                self.assertEqual(caught(tongue_of, "01", given), (BadTexts, at))
                self.assertEqual(caught(tongue_of, "01", tuple(given) + ("x",)), (BadTexts, at))
        self.assertEqual(caught(tongue_of, "01", ["0" * 12, "0" * 13]), (BadTexts, 1))


class Counting(unittest.TestCase):
    def test_first_texts(self):
        chance = Random(13)
        for signs, most in (("0", 14), ("01", 7), ("48", 6), ("012", 4)):
            for _ in range(40):
                tongue = random_tongue(chance, signs, 4)
                texts = [text for text in texts_of(signs, most) if tongue.has(text)]
                for many in (1, 2, 3, 7, 20):
                    first = first_texts(tongue, many)
                    self.assertIs(type(first), list)
                    short = [text for text in first if len(text) <= most]
                    self.assertEqual(short, texts[:many])
                    self.assertTrue(len(first) == many or first == texts)
                    self.assertEqual(first, sorted(set(first), key=lambda text: (len(text), text)))
                    self.assertTrue(all(tongue.has(text) for text in first))

    def test_all_if_fewer(self):
        self.assertEqual(first_texts(tongue_of("01", []), 20), [])
        self.assertEqual(first_texts(tongue_of("01", [""]), 20), [""])
        self.assertEqual(first_texts(tongue_of("01", ["1", "", "111111111111", "0"]), 20), ["", "0", "1", "1" * 12])
        self.assertEqual(first_texts(tongue_of("01", ["1", "", "00"]), 2), ["", "1"])
        line = line_tongue("0", 198)
        self.assertEqual(first_texts(line, 20), ["0" * 198])
        self.assertEqual(first_texts(line_tongue("01", 198), 2), ["0" * 198, "0" * 197 + "1"])

    def test_far_texts(self):
        ring = Tongue("0", [[(at + 1) % 200] for at in range(200)], [199])
        self.assertEqual(first_texts(ring, 20), ["0" * (200 * k + 199) for k in range(20)])
        self.assertEqual(many_texts(ring, 999), 1)
        self.assertEqual(many_texts(ring, 1000), 0)

    def test_new_lists(self):
        tongue = Tongue("01", [[0, 0]], [0])
        first = first_texts(tongue, 3)
        first.append("x")
        self.assertEqual(first_texts(tongue, 3), ["", "0", "1"])

    def test_first_errors(self):
        for thing in strange_things():
            if not isinstance(thing, Tongue):
                for call, given in ((first_texts, (1,)), (first_texts, (0,)), (many_texts, (0,)), (many_texts, (-1,)),
                                    (again, ()), (turned_tongue, ())):
                    kind, value = caught(call, thing, *given)
                    self.assertIs(kind, BadTongue)
                    self.assertIs(value, thing)
        tongue = Tongue("0", [[0]], [0])
        for many in strange_things() + [21, 22, -20, 1.0, "3"]:
            if type(many) is not int or not 1 <= many <= 20:
                kind, value = caught(first_texts, tongue, many)
                self.assertIs(kind, BadMany)
                self.assertIs(value, many)
        self.assertEqual([len(first_texts(tongue, many)) for many in (1, 20)], [1, 20])
        for size in strange_things() + [1001, 10 ** 9, -1, 0.0, "3"]:
            if type(size) is not int or not 0 <= size <= 1000:
                kind, value = caught(many_texts, tongue, size)
                self.assertIs(kind, BadTimes)
                self.assertIs(value, size)
        self.assertEqual([many_texts(tongue, size) for size in (0, 1000)], [1, 1])

    def test_many_texts(self):
        chance = Random(14)
        for signs, most in (("0", 14), ("01", 7), ("012", 4)):
            for _ in range(40):
                tongue = random_tongue(chance, signs, 5)
                for size in range(most + 1):
                    texts = ["".join(text) for text in product(signs, repeat=size)]
                    number = many_texts(tongue, size)
                    self.assertIs(type(number), int)
                    self.assertEqual(number, sum(tongue.has(text) for text in texts))

    def test_many_long_texts(self):
        self.assertEqual(many_texts(Tongue("012", [[0] * 3], [0]), 1000), 3 ** 1000)
        self.assertEqual(many_texts(Tongue("01", [[1, 0], [0, 1]], [1]), 1000), 2 ** 999)
        self.assertEqual(many_texts(Tongue("01", [[0, 1], [0, 2], [2, 2]], [0, 1]), 20), 17711)
        self.assertEqual(many_texts(line_tongue("012", 198), 198), 3 ** 198)
        self.assertEqual(many_texts(Tongue("01", [[0, 0]], []), 1000), 0)


class Made(unittest.TestCase):
    def test_again(self):
        chance = Random(15)
        for signs, most in (("0", 12), ("01", 6), ("012", 4)):
            for _ in range(50):
                tongue = random_tongue(chance, signs, 4)
                made = again(tongue)
                self.assertIs(type(made), Tongue)
                good = {""}
                for text in texts_of(signs, most):
                    if any(text[:at] in good and tongue.has(text[at:]) for at in range(len(text))):
                        good.add(text)
                    self.assertIs(made.has(text), text in good)
                self.assertEqual(again(made), made)

    def test_again_of_simple_ones(self):
        one = tongue_of("01", [""])
        self.assertEqual(again(tongue_of("01", [])), one)
        self.assertEqual(again(one), one)
        self.assertEqual(again(tongue_of("01", ["0", "1"])), Tongue("01", [[0, 0]], [0]))
        self.assertEqual(again(tongue_of("0", ["000"])), Tongue("0", [[1], [2], [0]], [0]))
        self.assertEqual(again(tongue_of("01", ["1", "00"])).has("0100"), False)

    def test_turned(self):
        chance = Random(16)
        for signs, most in (("0", 12), ("01", 6), ("012", 4)):
            for _ in range(50):
                tongue = random_tongue(chance, signs, 4)
                made = turned_tongue(tongue)
                self.assertIs(type(made), Tongue)
                for text in texts_of(signs, most):
                    self.assertIs(made.has(text), tongue.has(text[::-1]))
                self.assertEqual(turned_tongue(made), tongue)

    def kth_sign(self, size):
        """The tongue of all texts whose sign at this index is 1: read backwards it needs 2 ** (size + 1) states."""
        moves = [[at + 1, at + 1] for at in range(size)] + [[size + 1, size + 2], [size + 1] * 2, [size + 2] * 2]
        return Tongue("01", moves, [size + 2])

    def test_too_many(self):
        self.assertEqual(len(turned_tongue(self.kth_sign(6)).moves), 128)
        for size in (7, 10, 30, 150):
            self.assertEqual(caught(turned_tongue, self.kth_sign(size)), (TooMany, None))
        self.assertEqual(turned_tongue(turned_tongue(self.kth_sign(6))), self.kth_sign(6))

    def test_more_on_the_way(self):
        # Which of the last nine signs were 1 comes up here, and does not matter in the end.
        moves = [[11, 1]] + [[at + 1, at + 1] for at in range(1, 10)] + [[12, 12], [12, 12], [12, 12]]
        tongue = Tongue("01", moves, [1, 10, 11])
        self.assertEqual([len(text) for text in first_texts(tongue, 20)], [1, 1] + [10] * 18)
        self.assertEqual(again(tongue), Tongue("01", [[0, 0]], [0]))
        line = line_tongue("01", 198)
        self.assertEqual(turned_tongue(line), line)
        self.assertEqual(len(again(line).moves), 198)

    def of_sizes(self, one, other):
        """The tongue of the texts of these two sizes."""
        return Tongue("0", [[at + 1] for at in range(other + 1)] + [[other + 1]], [one, other])

    def test_just_two_hundred(self):
        # From (a - 1) * (b - 1) on, a and b make up every size; each lesser one has a state of its own.
        for one, other, many in ((2, 3, 3), (13, 15, 169), (12, 19, 199)):
            made = again(self.of_sizes(one, other))
            self.assertEqual(len(made.moves), many)
            sizes = {one * a + other * b for a in range(130) for b in range(90)}
            for size in range(240):
                self.assertIs(made.has("0" * size), size in sizes)
        self.assertEqual(caught(again, self.of_sizes(9, 26)), (TooMany, None))
        self.assertEqual(caught(again, self.of_sizes(29, 31)), (TooMany, None))


if __name__ == "__main__":
    unittest.main()
