import inspect
import unittest

from gatherall import errors

NAMES = [
    "NoWeb", "NoHouse", "NoPlaces", "NoRow", "NoPlace", "Never", "Nothing", "NoNames", "NoSigns", "NoCosts",
    "NoNumber", "Against", "NoText",
]


class TestErrors(unittest.TestCase):
    def test_the_base_is_a_value_error(self):
        self.assertEqual(errors.GatherError.__bases__, (ValueError,))

    def test_all_thirteen_stand_straight_under_the_base(self):
        self.assertEqual(len(NAMES), 13)
        for name in NAMES:
            with self.subTest(name):
                self.assertEqual(getattr(errors, name).__bases__, (errors.GatherError,))

    def test_none_stands_under_another(self):
        for name in NAMES:
            under = [other for other in NAMES if issubclass(getattr(errors, name), getattr(errors, other))]
            self.assertEqual(under, [name])

    def test_there_are_no_others(self):
        there = [name for name, thing in vars(errors).items() if inspect.isclass(thing)]
        self.assertEqual(sorted(there), sorted(NAMES + ["GatherError"]))

    def test_each_can_be_raised_and_taken_as_a_value_error(self):
        for name in NAMES:
            with self.assertRaises(ValueError):
                raise getattr(errors, name)("why")


if __name__ == "__main__":
    unittest.main()
