import unittest

from tests.support import strange_things
from watchedways.words import is_watch, is_word

A_TO_Z = "abcdefghijklmnopqrstuvwxyz"


class Words(unittest.TestCase):
    def test_each_letter_is_a_word(self):
        for letter in A_TO_Z:
            self.assertIs(is_word(letter), True)
            self.assertIs(is_word("m" + letter + "m"), True)
        self.assertIs(is_word(A_TO_Z), True)

    def test_numbers_of_letters(self):
        for size, is_one in ((0, False), (1, True), (39, True), (40, True), (41, False), (1000, False)):
            with self.subTest(size=size):
                self.assertIs(is_word("a" * size), is_one)

    def test_other_signs(self):
        strange = [chr(code) for code in range(300) if chr(code) not in A_TO_Z]
        strange += ["\u0430", "\u00e4", "\u00df", "\uff41", "\u00aa", "\u017f", "\U0001d41a"]
        for sign in strange:
            for thing in (sign, "a" + sign, sign + "a", "a" + sign + "a", "a" * 39 + sign):
                with self.subTest(thing=thing):
                    self.assertIs(is_word(thing), False)

    def test_things_that_are_no_words(self):
        for thing in strange_things() + [b"a", 1.5, {"a"}, str, iter("a")]:
            with self.subTest(thing=thing):
                self.assertIs(is_word(thing), False)

    def test_watches(self):
        for size, is_one in ((0, False), (1, True), (12, True), (13, False), (40, False)):
            self.assertIs(is_watch("z" * size), is_one)
        for thing in strange_things():
            self.assertIs(is_watch(thing), False)


if __name__ == "__main__":
    unittest.main()
