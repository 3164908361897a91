"""Lines that can be pressed by heart: [15]."""

import itertools
import random
import unittest

from chances import some_board
from menuhome.calls import play
from menuhome.errors import InvalidGoal
from menuhome.hearts import by_heart, hearts
from samples import any_values, board, read


def comes_by_last_digit(shown, text, line):
    """Whether a text of digits, as the first event of a call, comes to a line by its last digit."""
    played = play(shown, [text])
    return (played.end, played.presses) == (line, len(text))


def tried(shown, line, digits, longest):
    """The length of a shortest text of these digits that comes to a line, found by trying all, or None."""
    for many in range(1, longest + 1):
        for text in itertools.product(digits, repeat=many):
            if comes_by_last_digit(shown, "".join(text), line):
                return many
    return None


class HeartsCase(unittest.TestCase):
    def assert_heart(self, shown, line, length):
        told = by_heart(shown, line)
        if length is None:
            self.assertIsNone(told)
        else:
            self.assertIs(type(told), str)
            self.assertEqual(len(told), length, told)
            self.assertTrue(comes_by_last_digit(shown, told, line), told)
        self.assertEqual(line in hearts(shown), length is not None)


class Hearts(HeartsCase):
    def test_the_board_of_the_document(self):
        self.assertEqual((by_heart(board(), "cash"), by_heart(board(), "desk")), ("11", "3"))
        self.assertEqual(hearts(board()), ("cash", "desk"))
        self.assert_heart(board().having("top", "1", "go ask"), "cash", None)

    def test_a_menu_that_clears_in_the_middle(self):
        shown = read("menu a tries 1\n1 go b\n2 go c\nelse out", "menu b tries 1 clear\n1 line x\nelse line y",
                     "menu c tries 1\n1 go d\nelse go b", "menu d tries 1\n1 line x\n2 line z\nelse go b")
        self.assert_heart(shown, "x", 3)
        self.assert_heart(shown, "y", None)
        self.assert_heart(shown, "z", 3)
        self.assertEqual(by_heart(shown, "z"), "212")
        self.assertEqual(hearts(shown), ("x", "z"))

    def test_a_menu_that_clears_and_comes_home(self):
        shown = read("menu a tries 1\n1 call b c\nelse out", "menu b tries 1 clear\n1 back\nelse back",
                     "menu c tries 1\n1 line x\nelse out")
        self.assert_heart(shown, "x", None)
        self.assert_heart(read(str(shown).replace(" clear", "")), "x", 3)

    def test_a_main_menu_that_clears(self):
        shown = read("menu a tries 2 clear\n1 line x\n2 again\n3 go b\n4 call b a\nelse line y",
                     "menu b tries 1\n1 main\n2 back\n3 line z\nelse go a")
        self.assert_heart(shown, "x", 1)
        self.assert_heart(shown, "y", 2)
        self.assert_heart(shown, "z", 2)
        # It drops the digits once it starts again.
        for action in ("again", "main", "go a"):
            shown = read(f"menu a tries 1 clear\n1 go b\n2 {action}\nelse {action}",
                         f"menu b tries 1\n1 {action.replace('again', 'main')}\n2 line x\nelse main")
            self.assert_heart(shown, "x", 2)
        shown = read("menu a tries 1 clear\n1 call b a\n2 call b c\nelse out", "menu b tries 1\nelse back",
                     "menu c tries 1\n1 line x\nelse go a")
        self.assert_heart(shown, "x", 3)
        shown = read("menu a tries 1 clear\n1 call b a\n2 go b\nelse out", "menu b tries 1\nelse back",
                     "menu c tries 1\n1 line x\nelse go a")
        self.assert_heart(shown, "x", None)

    def test_wrong_digits_use_up_tries(self):
        for tries in (1, 2, 3):
            shown = read(f"menu a tries {tries}\n0 out\n1 out\nelse go b", f"menu b tries {tries}\n5 out\nelse line x")
            self.assert_heart(shown, "x", 2 * tries)
        shown = read("menu a tries 3\n1 go b\n2 out\nelse line x", "menu b tries 1\n1 line x\nelse out")
        self.assert_heart(shown, "x", 2)
        shown = read("menu a tries 3\n1 go b\nelse call c d", "menu b tries 3\nelse line y",
                     "menu c tries 2\n1 go b\nelse back", "menu d tries 1\n1 line x\nelse out")
        self.assert_heart(shown, "x", 6)
        self.assert_heart(shown, "y", 4)

    def test_silence_is_no_digit(self):
        shown = read("menu a tries 1\n1 out\nelse go b", "menu b tries 1\n1 line x\nelse out")
        self.assert_heart(shown, "x", 2)

    def test_a_menu_without_wrong_digits(self):
        rows = [f"{digit} out" for digit in range(10)]
        self.assert_heart(read("menu a tries 1", *rows, "else line x"), "x", None)
        self.assert_heart(read("menu a tries 1", *rows[:9], "else line x"), "x", 1)
        self.assertEqual(by_heart(read("menu a tries 2", *rows[1:], "else line x"), "x"), "00")

    def test_a_called_menu_that_must_come_home(self):
        shown = read("menu a tries 1\n1 call b c\nelse out", "menu b tries 2\n4 call c c\n5 back\nelse again",
                     "menu c tries 1\n1 line x\n2 back\nelse again")
        self.assert_heart(shown, "x", 3)
        shown = read("menu a tries 1\n1 call b d\nelse out", "menu b tries 2\n4 call c c\nelse again",
                     "menu c tries 1\n1 out\n2 back\nelse again", "menu d tries 1\n7 line x\nelse out")
        self.assert_heart(shown, "x", 5)
        self.assertEqual(by_heart(shown, "x"), "14227")

    def test_long_events(self):
        names = "abcdef"
        calls = [f"menu {one} tries 3\n1 call {two} {two}\nelse again" for one, two in zip(names, names[1:])]
        shown = read("menu m tries 1\n1 call a n\nelse out", *calls, "menu f tries 3\nelse back",
                     "menu n tries 1\n1 line x\nelse out")
        # 32 menus come home by three wrong digits each, behind 31 calls.
        self.assert_heart(shown, "x", 1 + 31 + 32 * 3 + 1)

    def test_main_within_a_called_menu(self):
        shown = read("menu a tries 2\n1 call b b\n2 go c\nelse out", "menu b tries 1\n1 main\nelse main",
                     "menu c tries 1\n1 go b\nelse line x")
        self.assert_heart(shown, "x", 2)
        shown = read("menu m tries 1\n1 call b c\n2 line x\nelse out", "menu b tries 1\nelse main",
                     "menu c tries 1\n1 line y\nelse out")
        self.assert_heart(shown, "y", None)
        self.assert_heart(shown, "x", 1)

    def test_no_line(self):
        self.assertEqual(hearts(read("menu a tries 1\nelse out")), ())

    def test_wrong_goals(self):
        for value in any_values() + ["back", "top", "out", "line cash", "cash ", "1", "Cash"]:
            with self.assertRaises(InvalidGoal):
                by_heart(board(), value)


class Trying(HeartsCase):
    """All texts of digits up to some length, tried on small boards."""

    def test_all_texts(self):
        chance = random.Random(31)
        lengths = []
        for _ in range(400):
            # Rows have the digits 1, 2 and 3; 0 is wrong in each menu.
            shown = some_board(chance, chance.randint(1, 4), 2)
            for line in shown.lines:
                found = tried(shown, line, "0123", 5)
                told = by_heart(shown, line)
                if found is None:
                    self.assertTrue(told is None or len(told) > 5, str(shown))
                else:
                    self.assertEqual(len(told), found, str(shown))
                if told is not None:
                    self.assertTrue(comes_by_last_digit(shown, told, line), (told, str(shown)))
                    lengths.append(len(told))
        self.assertGreater(len(lengths), 50)
        self.assertGreater(max(lengths), 4)


if __name__ == "__main__":
    unittest.main()
