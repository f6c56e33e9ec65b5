"""Tests of the errors: point [9] and the row of lasttouch/errors.py in the interface."""

import unittest

from lasttouch import errors

PLAIN = (
    "InvalidProgram", "InvalidName", "InvalidNames", "InvalidWord", "InvalidWords",
    "InvalidLabelling", "InvalidStart", "InvalidSight", "InvalidTable", "InvalidFamily",
    "InvalidGraph", "InvalidBook", "InvalidNumber", "InvalidText", "TooLarge", "NoBlocks",
    "NothingToUndo",
)
WITH_NAME = ("Missing", "Lost")


class Bases(unittest.TestCase):
    def test_the_one_at_the_top_derives_directly_from_value_error(self):
        self.assertEqual(errors.LastTouchError.__bases__, (ValueError,))

    def test_each_other_one_derives_directly_from_the_one_at_the_top(self):
        for word in PLAIN + WITH_NAME:
            with self.subTest(word):
                self.assertEqual(getattr(errors, word).__bases__, (errors.LastTouchError,))

    def test_they_are_caught_as_value_errors(self):
        for word in PLAIN + WITH_NAME:
            with self.subTest(word), self.assertRaises(ValueError):
                raise getattr(errors, word)("a")

    def test_there_are_no_others(self):
        found = {word for word in vars(errors) if isinstance(getattr(errors, word), type)}
        self.assertEqual(found, {"LastTouchError", *PLAIN, *WITH_NAME})


class Creation(unittest.TestCase):
    def test_without_a_message(self):
        for word in ("LastTouchError",) + PLAIN:
            with self.subTest(word):
                self.assertIsInstance(getattr(errors, word)(), errors.LastTouchError)

    def test_with_one_message(self):
        for word in ("LastTouchError",) + PLAIN:
            with self.subTest(word):
                self.assertEqual(str(getattr(errors, word)("told")), "told")

    def test_the_field_is_none_without_an_object(self):
        for word in WITH_NAME:
            with self.subTest(word):
                self.assertIsNone(getattr(errors, word)().name)

    def test_the_field_holds_the_very_object(self):
        given = [None, False, True, 0, 10 ** 999, "", "a", ("a", 1), ["a"], {"a": ["b"]}, object()]
        for word in WITH_NAME:
            for thing in given:
                with self.subTest(word, kind=str(type(thing))):
                    self.assertIs(getattr(errors, word)(thing).name, thing)
                    self.assertIs(getattr(errors, word)(name=thing).name, thing)

    def test_the_field_is_there_when_it_is_caught(self):
        for word in WITH_NAME:
            with self.subTest(word):
                with self.assertRaises(getattr(errors, word)) as caught:
                    raise getattr(errors, word)("b")
                self.assertEqual(caught.exception.name, "b")

    def test_no_second_argument_for_a_field(self):
        for word in WITH_NAME:
            with self.subTest(word), self.assertRaises(TypeError):
                getattr(errors, word)("a", "b")


if __name__ == "__main__":
    unittest.main()
