import unittest

from watchedways import errors

WITH_VALUE = """
    BadWord BadWatch BadWatches BadBook BadSpot BadRule BadZigzag BadRules BadText BadReckoning
    BadWorth BadMost BadNumber BadWeb BadName BadLetter BadTable BadMany BadTables NoRow ManyRows
    BadRow BadFlat BadRoads BadWords BadLetters BadWatchers BadNames BadOffers BadPrice BadPart
    BadTimes BadLengths BadKnown BadSigns BadMoves BadEnds BadTexts BadTongue BadMap BadTies BadMenu
    NotTold
""".split()
WITHOUT_VALUE = ["TooMany", "NothingDone"]


class Errors(unittest.TestCase):
    def test_there_are_forty_five(self):
        named = [name for name in vars(errors) if isinstance(getattr(errors, name), type)]
        self.assertEqual(sorted(named), sorted(WITH_VALUE + WITHOUT_VALUE + ["WayError"]))
        self.assertEqual(len(named), 46)

    def test_value_is_kept(self):
        for name in WITH_VALUE:
            for value in (None, True, 0, -1, "word", ["a"], ("size", -1, -1, -1), {"a": 1}, 10 ** 200):
                with self.subTest(name=name, value=value):
                    error = getattr(errors, name)(value)
                    self.assertIs(error.value, value)

    def test_value_is_asked_for(self):
        for name in WITH_VALUE:
            with self.subTest(name=name), self.assertRaises(TypeError):
                getattr(errors, name)()

    def test_errors_without_value(self):
        for name in WITHOUT_VALUE:
            with self.subTest(name=name):
                self.assertIsNone(getattr(errors, name)().value)
                with self.assertRaises(TypeError):
                    getattr(errors, name)(1)

    def test_all_are_directly_below_way_error(self):
        self.assertEqual(errors.WayError.__bases__, (ValueError,))
        for name in WITH_VALUE + WITHOUT_VALUE:
            with self.subTest(name=name):
                self.assertEqual(getattr(errors, name).__bases__, (errors.WayError,))

    def test_each_is_caught_by_its_own_names_alone(self):
        every = [getattr(errors, name) for name in WITH_VALUE + WITHOUT_VALUE]
        for one in every:
            made = one(1) if one.__name__ in WITH_VALUE else one()
            for wider in (one, errors.WayError, ValueError):
                with self.subTest(one=one, wider=wider), self.assertRaises(wider):
                    raise made
            self.assertEqual([other for other in every if isinstance(made, other)], [one])


if __name__ == "__main__":
    unittest.main()
