"""The errors: their classes, which class is under which, and their attributes."""

import unittest

from noteless import errors

PLAIN = ["InvalidWish", "UnknownStep", "InvalidLasso", "LettersDiffer", "TooLarge"]
UNDER_BOARD_ERROR = ["InvalidPlace", "InvalidWays", "UnknownPlace", "PlaceInUse"]
WITH_ATTRIBUTES = {
    "InvalidText": {"line": 3},
    "UnknownLetter": {"letter": "x"},
    "BoardError": {"place": "hall"},
    "InvalidPlace": {"place": "hall"},
    "InvalidWays": {"place": "hall"},
    "UnknownPlace": {"place": "hall"},
    "PlaceInUse": {"place": "hall"},
    "InvalidDeed": {"position": 2, "place": "hall"},
    "InvalidPlan": {"place": "hall"},
    "InvalidMove": {"place": "hall"},
    "NotesNeeded": {"kind": "rise"},
}
ALL = PLAIN + list(WITH_ATTRIBUTES)


def made(name):
    if name in PLAIN:
        return getattr(errors, name)("why")
    return getattr(errors, name)(*WITH_ATTRIBUTES[name].values())


class ErrorsTest(unittest.TestCase):
    def test_the_base_class(self):
        self.assertEqual(errors.NotelessError.__bases__, (ValueError,))

    def test_each_class_stands_directly_under_its_base(self):
        for name in ALL:
            base = errors.BoardError if name in UNDER_BOARD_ERROR else errors.NotelessError
            with self.subTest(name=name):
                self.assertEqual(getattr(errors, name).__bases__, (base,))

    def test_an_error_is_of_none_of_the_classes_beside_it(self):
        for name in ALL:
            error = made(name)
            self.assertIsInstance(error, errors.NotelessError)
            self.assertIsInstance(error, ValueError)
            for other in ALL:
                expected = other == name or other == "BoardError" and name in UNDER_BOARD_ERROR
                with self.subTest(name=name, other=other):
                    self.assertEqual(isinstance(error, getattr(errors, other)), expected)

    def test_attributes(self):
        for name, attributes in WITH_ATTRIBUTES.items():
            error = made(name)
            for attribute, worth in attributes.items():
                with self.subTest(name=name, attribute=attribute):
                    self.assertEqual(getattr(error, attribute), worth)

    def test_each_error_has_words(self):
        for name in ALL:
            with self.subTest(name=name):
                self.assertNotEqual(str(made(name)), "")


if __name__ == "__main__":
    unittest.main()
