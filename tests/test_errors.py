"""The interface, wornstones/errors.py."""

import unittest

from wornstones import errors

PLAIN = ["BadSign", "BadText", "BadRow", "BadWear", "BadBook", "BadCount", "BadNumber", "NotOf", "BadSeen",
         "BadStone", "BadSize", "BadPieces", "BadParents", "BadRows", "BadColumn", "BadLot", "BadPlace",
         "BadParent", "BadLength", "NothingToUndo", "Full", "TooMany", "BadCommand"]
PLACED = ["BadDeeds", "BadLines", "BadWords"]


class ErrorsTest(unittest.TestCase):
    def test_each_stands_directly_under_stone_error(self):
        self.assertEqual(errors.StoneError.__bases__, (ValueError,))
        for name in PLAIN + PLACED:
            with self.subTest(name=name):
                self.assertEqual(getattr(errors, name).__bases__, (errors.StoneError,))
                self.assertEqual(getattr(errors, name).__name__, name)
                self.assertEqual(getattr(errors, name).__module__, "wornstones.errors")

    def test_none_stands_under_another_one(self):
        kinds = [getattr(errors, name) for name in PLAIN + PLACED]
        for one in kinds:
            for other in kinds:
                self.assertEqual(issubclass(one, other), one is other)

    def test_each_is_caught_as_each_of_these(self):
        for name in PLAIN:
            self.check_caught(getattr(errors, name), ("a text",), {})
        for name in PLACED:
            self.check_caught(getattr(errors, name), (3,), {})
            self.check_caught(getattr(errors, name), (), {"place": 3})
        with self.assertRaises(ValueError):
            raise errors.StoneError("a text")

    def check_caught(self, kind, given, named):
        for caught in (kind, errors.StoneError, ValueError):
            with self.subTest(kind=kind.__name__, caught=caught.__name__, named=named):
                with self.assertRaises(caught) as held:
                    raise kind(*given, **named)
                self.assertIs(held.exception.__class__, kind)

    def test_the_place_is_an_attribute(self):
        for name in PLACED:
            kind = getattr(errors, name)
            for place in (-1, 0, 1, 100, 10 ** 59):
                with self.subTest(name=name, place=place):
                    self.assertEqual(kind(place).place, place)
                    self.assertEqual(kind(place=place).place, place)
                    self.assertIs(type(kind(place).place), int)
            with self.assertRaises(TypeError):
                kind()

    def test_the_others_are_made_with_one_text(self):
        for name in ["StoneError"] + PLAIN:
            with self.subTest(name=name):
                self.assertEqual(str(getattr(errors, name)("a text")), "a text")
                self.assertFalse(hasattr(getattr(errors, name)("a text"), "place"))


if __name__ == "__main__":
    unittest.main()
