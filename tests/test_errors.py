"""The errors of [4]."""

import unittest

from menuhome import errors
from menuhome.errors import (
    InvalidBoard,
    InvalidCommand,
    InvalidEvent,
    InvalidGoal,
    InvalidMenu,
    InvalidStack,
    InvalidText,
    MenuError,
    NoMenu,
    Refused,
)
from samples import any_values

WITH_WORD = [InvalidMenu, InvalidBoard]
WITH_AT = [InvalidText, InvalidEvent, InvalidStack, Refused]
WITHOUT = [InvalidGoal, InvalidCommand]


class Errors(unittest.TestCase):
    def test_bases(self):
        self.assertEqual(MenuError.__bases__, (ValueError,))
        for error in WITH_WORD + WITH_AT + WITHOUT:
            self.assertEqual(error.__bases__, (MenuError,))
        self.assertEqual(NoMenu.__bases__, (KeyError,))
        self.assertFalse(issubclass(NoMenu, MenuError))

    def test_none_is_derived_from_another_one(self):
        own = WITH_WORD + WITH_AT + WITHOUT + [NoMenu]
        for one in own:
            for other in own:
                self.assertEqual(issubclass(one, other), one is other)

    def test_arguments_are_kept(self):
        things = any_values() + [{}, {"a": [1]}, {1, 2}, b"x", 1.5, object(), ValueError, print, self]
        for thing in things:
            for error in WITH_WORD:
                self.assertIs(error(thing).word, thing)
                self.assertIs(error(word=thing).word, thing)
            for error in WITH_AT:
                self.assertIs(error(thing).at, thing)
                self.assertIs(error(at=thing).at, thing)
            self.assertIs(NoMenu(thing).name, thing)
            self.assertIs(NoMenu(name=thing).name, thing)

    def test_a_kept_list_is_the_list_itself(self):
        word = ["a"]
        error = InvalidMenu(word)
        word.append("b")
        self.assertEqual(error.word, ["a", "b"])

    def test_they_are_raised_and_caught(self):
        for error in WITH_WORD + WITH_AT:
            with self.assertRaises(MenuError) as caught:
                raise error([1])
            self.assertIs(type(caught.exception), error)
        for error in WITHOUT:
            with self.assertRaises(ValueError) as caught:
                raise error()
            self.assertIs(type(caught.exception), error)
        with self.assertRaises(KeyError) as caught:
            raise NoMenu(None)
        self.assertIsNone(caught.exception.name)

    def test_each_takes_its_arguments_and_no_more(self):
        for error in WITH_WORD + WITH_AT + [NoMenu]:
            with self.assertRaises(TypeError):
                error()
            with self.assertRaises(TypeError):
                error(1, 2)

    def test_there_are_no_others(self):
        own = {name for name, value in vars(errors).items() if isinstance(value, type)}
        listed = {error.__name__ for error in [MenuError, NoMenu] + WITH_WORD + WITH_AT + WITHOUT}
        self.assertEqual(own, listed)


if __name__ == "__main__":
    unittest.main()
