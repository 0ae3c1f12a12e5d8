import unittest

from onceshade import errors

NAMES = [
    "NoFraction", "NoSpot", "NoBody", "NoMove", "NoFlat", "NoFace", "NoBoard",
    "NoLight", "NoDeed", "NoText", "NoName", "NoRow", "Behind", "TooMany",
]


class Refusals(unittest.TestCase):
    def test_the_base_stands_straight_under_value_error(self):
        self.assertEqual(errors.ShadeError.__bases__, (ValueError,))

    def test_each_refusal_stands_straight_under_the_base(self):
        self.assertEqual(len(NAMES), 14)
        for name in NAMES:
            with self.subTest(name=name):
                self.assertEqual(getattr(errors, name).__bases__, (errors.ShadeError,))

    def test_no_two_names_are_one_class(self):
        kinds = [getattr(errors, name) for name in NAMES]
        self.assertEqual(len({id(kind) for kind in kinds}), 14)
        for kind in kinds:
            self.assertIn(kind.__name__, NAMES)

    def test_none_catches_another_one(self):
        kinds = [getattr(errors, name) for name in NAMES]
        for one in kinds:
            for other in kinds:
                with self.subTest(one=one, other=other):
                    self.assertEqual(issubclass(one, other), one is other)

    def test_each_is_caught_as_a_value_error(self):
        for name in NAMES:
            with self.subTest(name=name), self.assertRaises(ValueError):
                raise getattr(errors, name)("why")


if __name__ == "__main__":
    unittest.main()
