import unittest
from itertools import product
from random import Random

from tests.support import (
    FIRST_STAYS, THREE_TURNS, TOLD_WORDS, bounded_tables, caught, chain_tables, lot_tables, random_web, renamed,
    strange_things, told,
)
from watchedways.books import Book
from watchedways.errors import BadMap, BadReckoning, BadWeb, TooMany
from watchedways.lengths import Lengths
from watchedways.making import beside, lots, turned, widths, yes_no
from watchedways.maps import is_map, mapped, mapped_table, maps
from watchedways.numbers import Numbers
from watchedways.reckonings import Reckoning
from watchedways.running import run, run_back
from watchedways.speaking import Tongues
from watchedways.webs import Web


def small_ones():
    """Told reckonings so small that all tuples can be tried."""
    found = [told(chain_tables(many)) for many in (2, 3, 4)] + [told(bounded_tables(many)) for many in (3, 4)]
    found += [told(renamed(chain_tables(4), [2, 0, 3, 1])), told(renamed(bounded_tables(4), [1, 3, 0, 2]))]
    return found + [told(lot_tables([[0, 1], [1, 0]], 0)), told(lot_tables([[0, 1], [1, 1]], 0)), beside(yes_no(), yes_no())]


def greater_ones():
    """Told reckonings of up to 8 worths, some whose product does not swap."""
    found = [told(lot_tables(THREE_TURNS, 0)), told(lot_tables(FIRST_STAYS, 0)), turned(told(lot_tables(FIRST_STAYS, 0)))]
    found += [beside(beside(yes_no(), yes_no()), yes_no()), beside(widths(1), widths(2)), widths(7), told(bounded_tables(6))]
    return found + [told(renamed(lot_tables(FIRST_STAYS, 0), [5, 2, 7, 0, 1, 6, 4, 3]))]


def keeps(one, other, led):
    """Whether the tuple of worths is a map, in the words of [34]."""
    worths = range(len(one.joins))
    if led[one.none] != other.none or led[one.one] != other.one:
        return False
    return all(
        led[one.join(a, b)] == other.join(led[a], led[b]) and led[one.times(a, b)] == other.times(led[a], led[b])
        for a in worths for b in worths
    )


def not_told():
    return [thing for thing in strange_things() if not isinstance(thing, Reckoning)] + [Lengths(), Numbers(), Tongues("0")]


class Maps(unittest.TestCase):
    def test_ordinary(self):
        self.assertEqual(maps(yes_no(), widths(3)), [(0, 3)])
        self.assertEqual(maps(widths(3), yes_no()), [(0, 0, 0, 1), (0, 0, 1, 1), (0, 1, 1, 1)])
        self.assertEqual(maps(widths(2), widths(2)), [(0, 0, 2), (0, 1, 2), (0, 2, 2)])
        self.assertEqual(maps(beside(yes_no(), yes_no()), yes_no()), [(0, 0, 1, 1), (0, 1, 0, 1)])
        self.assertIs(is_map(widths(2), widths(3), (0, 1, 3)), True)
        self.assertIs(is_map(widths(2), widths(3), (0, 1, 2)), False)

    def test_against_trying_all_tuples(self):
        many = {}
        for one, other in product(small_ones(), repeat=2):
            tuples = list(product(range(len(other.joins)), repeat=len(one.joins)))
            wanted = [led for led in tuples if keeps(one, other, led)]
            found = maps(one, other)
            self.assertEqual(found, wanted)
            self.assertEqual((type(found), {type(led) for led in found}), (list, {tuple} if found else set()))
            for led in tuples:
                self.assertIs(is_map(one, other, led), led in wanted)
            many[len(found)] = True
        self.assertGreater(len(many), 4)

    def test_greater_reckonings(self):
        chance = Random(341)
        some = 0
        for one in greater_ones():
            for other in greater_ones() + small_ones():
                found = maps(one, other)
                self.assertEqual(found, sorted(set(found)))
                for led in found[:50]:
                    self.assertTrue(keeps(one, other, led))
                    self.assertIs(is_map(one, other, led), True)
                # What is near a map is a map only if it stands in the list.
                for led in found[:5]:
                    at = chance.randrange(len(led))
                    near = led[:at] + (chance.randrange(len(other.joins)),) + led[at + 1:]
                    some += near not in found
                    self.assertIs(is_map(one, other, near), near in found)
                    self.assertIs(is_map(one, other, near), keeps(one, other, near))
        self.assertGreater(some, 50)

    def test_all_maps_to_yes_no(self):
        for one in greater_ones() + small_ones():
            wanted = [led for led in product((0, 1), repeat=len(one.joins)) if keeps(one, yes_no(), led)]
            self.assertEqual(maps(one, yes_no()), wanted)

    def test_maps_to_sixteen_worths(self):
        other = beside(beside(yes_no(), yes_no()), beside(yes_no(), yes_no()))
        self.assertEqual(len(maps(beside(beside(yes_no(), yes_no()), yes_no()), other)), 3 ** 4)
        found = maps(widths(7), widths(15))
        self.assertEqual(len(found), 54264)
        self.assertEqual((found[0], found[-1]), ((0,) * 7 + (15,), (0,) + (15,) * 7))

    def test_few(self):
        turns = told(lot_tables([[0, 1], [1, 0]], 0))
        self.assertEqual(maps(yes_no(), turns), [(0, 1)])
        self.assertEqual(maps(turns, widths(1)), [(0, 1, 1, 1)])
        self.assertEqual(maps(told(bounded_tables(3)), told(chain_tables(2))), [(0, 0, 1)])
        self.assertEqual(maps(widths(2), told(bounded_tables(3))), [(0, 0, 2), (0, 2, 2)])

    def test_eight_and_nine_worths(self):
        self.assertEqual(caught(maps, widths(8), yes_no()), (TooMany, None))
        self.assertEqual(caught(maps, widths(15), widths(15)), (TooMany, None))
        self.assertEqual(len(maps(widths(7), yes_no())), 7)
        self.assertEqual(len(maps(yes_no(), widths(15))), 1)
        self.assertIs(is_map(widths(15), yes_no(), (0,) * 8 + (1,) * 8), True)
        self.assertIs(is_map(widths(15), yes_no(), (0,) * 8 + (1, 0) + (1,) * 6), False)

    def test_errors(self):
        for thing in not_told():
            for call, given in ((is_map, ((0, 1),)), (is_map, (None,)), (maps, ())):
                for one, other in ((thing, yes_no()), (thing, None), (thing, thing), (yes_no(), thing), (widths(8), thing)):
                    kind, value = caught(call, one, other, *given)
                    self.assertIs(kind, BadReckoning)
                    self.assertIs(value, thing)

    def test_every_kind_of_value(self):
        for thing in strange_things() + [[0, 0, 1], (0, 0, 1, 1), (0, 0), (0, 0, True), (False, 0, 1), (0, None, 1), (0, 0, 2),
                                         (0, -1, 1), (0, 0, 1.0), {0: 0, 1: 0, 2: 1}, ((0, 0, 1),), (0, "0", 1), "001"]:
            self.assertIs(is_map(widths(2), yes_no(), thing), False)
        self.assertIs(is_map(widths(2), yes_no(), (0, 0, 1)), True)
        self.assertIs(is_map(widths(2), yes_no(), (0, 1, 1)), True)


class Mapped(unittest.TestCase):
    def test_ordinary(self):
        web = Web(widths(3), ["b", "a"], [("b", "x", "a", 3), ("a", "x", "a", 1), ("a", "y", "b", 2), ("b", "x", "b", 1)])
        self.assertEqual(mapped(web, yes_no(), (0, 0, 1, 1)).roads, (("b", "x", "a", 1), ("a", "y", "b", 1)))
        self.assertEqual(mapped(web, yes_no(), (0, 1, 1, 1)).places, ("b", "a"))
        self.assertEqual(mapped(web, widths(5), (0, 2, 2, 5)).roads, (
            ("b", "x", "a", 5), ("a", "x", "a", 2), ("a", "y", "b", 2), ("b", "x", "b", 2),
        ))
        self.assertEqual(mapped(web, widths(5), (0, 2, 2, 5)).reckoning, widths(5))
        self.assertEqual(mapped_table(widths(3), yes_no(), (0, 0, 1, 1), ((3, 0), (1, 2))), ((1, 0), (0, 1)))

    def test_webs_and_tables(self):
        chance = Random(342)
        met = 0
        for one, other in product(small_ones() + greater_ones()[:3], small_ones()):
            for led in maps(one, other)[:3]:
                met += 1
                web = random_web(chance, one, 3, "ab", 8)
                found = mapped(web, other, led)
                self.assertEqual(found.roads, tuple(
                    (*road[:3], led[road[3]]) for road in web.roads if led[road[3]] != other.none
                ))
                self.assertEqual((found.places, found.reckoning), (web.places, other))
                for word in ("a", "ab", "bab", ""):
                    self.assertEqual(found.table(word), mapped_table(one, other, led, web.table(word)))
                    self.assertEqual(found.table(word), tuple(tuple(led[worth] for worth in row) for row in web.table(word)))
        self.assertGreater(met, 60)

    def test_rules_over_mapped_tables(self):
        chance = Random(343)
        unlike = 0
        for one in small_ones() + greater_ones()[:3]:
            for other in (yes_no(), widths(2), small_ones()[4]):
                for led in maps(one, other)[:2]:
                    for watches, _, steps in TOLD_WORDS:
                        web = random_web(chance, one, 3, "abcxy", 20)
                        tables = web.tables(Book(watches))
                        turned_tables = {watch: mapped_table(one, other, led, tables[watch]) for watch in tables}
                        answer = mapped_table(one, other, led, run(one, tables, steps))
                        self.assertEqual(run(other, turned_tables, steps), answer)
                        self.assertEqual(run_back(other, turned_tables, steps), answer)
                    unlike += any(
                        led[one.left(a, c)] != other.left(led[a], led[c])
                        for a in range(len(one.joins)) for c in range(len(one.joins))
                    )
        self.assertGreater(unlike, 5)

    def test_errors_of_mapped(self):
        good = Web(widths(2), ["a"], [("a", "b", "a", 1)])
        webs = [Web(made, ["a"], []) for made in (Lengths(), Numbers(), Tongues("01"))]
        for thing in strange_things() + webs:
            for other, led in ((yes_no(), (0, 1, 1)), (None, None), (yes_no(), None)):
                kind, value = caught(mapped, thing, other, led)
                self.assertIs(kind, BadWeb)
                self.assertIs(value, thing)
        for thing in not_told():
            for led in ((0, 1, 1), None):
                kind, value = caught(mapped, good, thing, led)
                self.assertIs(kind, BadReckoning)
                self.assertIs(value, thing)
        for led in strange_things() + [[0, 1, 1], (0, 1), (0, 1, 0), (0, 1, True), (0, 1, 1, 1), (1, 1, 1)]:
            kind, value = caught(mapped, good, yes_no(), led)
            self.assertIs(kind, BadMap)
            self.assertIs(value, led)

    def test_errors_of_mapped_table(self):
        for thing in not_told():
            for one, other in ((thing, None), (thing, yes_no()), (yes_no(), thing)):
                kind, value = caught(mapped_table, one, other, None, None)
                self.assertIs(kind, BadReckoning)
                self.assertIs(value, thing)
        for led in strange_things() + [[0, 1, 1], (0, 1), (0, 1, 0), (0, True, 1)]:
            kind, value = caught(mapped_table, widths(2), yes_no(), led, ((0,),))
            self.assertIs(kind, BadMap)
            self.assertIs(value, led)

    def test_nothing_is_changed(self):
        web = Web(widths(2), ["a"], [("a", "b", "a", 1)])
        mapped(web, yes_no(), (0, 0, 1))
        self.assertEqual(web, Web(widths(2), ["a"], [("a", "b", "a", 1)]))
        maps(widths(2), yes_no()).clear()
        self.assertEqual(maps(widths(2), yes_no()), [(0, 0, 1), (0, 1, 1)])
        self.assertEqual(lots([[0]], 0), yes_no())


if __name__ == "__main__":
    unittest.main()
