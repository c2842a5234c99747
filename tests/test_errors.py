import unittest

from scenemend import errors
from scenemend.errors import SceneError

REFUSALS = (
    "NoShare", "NoPart", "Twice", "NoHolder", "TooDeep", "Nested", "TooMany",
    "NoName", "WrongKind", "Unlike", "NoStep", "NoText", "NoRow",
)


class RefusalsTest(unittest.TestCase):
    def test_scene_error_is_straight_under_value_error(self):
        self.assertEqual(SceneError.__bases__, (ValueError,))

    def test_each_refusal_is_straight_under_scene_error(self):
        for name in REFUSALS:
            with self.subTest(name=name):
                self.assertEqual(getattr(errors, name).__bases__, (SceneError,))

    def test_each_refusal_bears_its_name(self):
        for name in REFUSALS:
            self.assertEqual(getattr(errors, name).__name__, name)

    def test_no_refusal_is_taken_by_another_one(self):
        for name in REFUSALS:
            for other in REFUSALS:
                with self.subTest(name=name, other=other):
                    taken = issubclass(getattr(errors, name), getattr(errors, other))
                    self.assertEqual(taken, name == other)

    def test_each_refusal_is_taken_by_scene_error_and_value_error(self):
        for name in REFUSALS:
            for taker in (SceneError, ValueError):
                with self.subTest(name=name, taker=taker):
                    with self.assertRaises(taker):
                        raise getattr(errors, name)("refused")


if __name__ == "__main__":
    unittest.main()
