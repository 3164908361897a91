"""Menus and actions: [5] and [6], and the names and digits of [1]."""

import itertools
import unittest

from menuhome.errors import InvalidMenu, InvalidText
from menuhome.menus import Menu
from samples import ACTIONS, NOT_NAMES, WRONG_ACTIONS, any_values, board

ROWS = [("7", "line cash"), ("0", "call pay top"), ("3", "back")]
PRINTABLE = [chr(number) for number in range(32, 127)]
TEXT = ["menu top tries 2 clear", "0 call pay top", "3 back", "7 line cash", "else again"]


class MenuCase(unittest.TestCase):
    def assert_invalid(self, word, *arguments):
        with self.assertRaises(InvalidMenu) as caught:
            Menu(*arguments)
        self.assertEqual(caught.exception.word, word)


class Making(MenuCase):
    def test_attributes(self):
        menu = Menu("top", ROWS, "again", 2, True)
        self.assertEqual(menu.name, "top")
        self.assertEqual(menu.rows, (("0", "call pay top"), ("3", "back"), ("7", "line cash")))
        self.assertEqual(menu.tail, "again")
        self.assertEqual(menu.tries, 2)
        self.assertIs(menu.clears, True)

    def test_rows_in_any_order_from_lists_and_tuples(self):
        menu = Menu("top", ROWS, "again")
        for rows in itertools.permutations(ROWS):
            self.assertEqual(Menu("top", rows, "again").rows, menu.rows)
            self.assertEqual(Menu("top", list(rows), "again").rows, menu.rows)

    def test_no_rows(self):
        self.assertEqual(Menu("top", [], "out").rows, ())
        self.assertEqual(Menu("top", (), "out").rows, ())

    def test_a_row_for_each_digit(self):
        rows = [(digit, "out") for digit in "9081726354"]
        self.assertEqual(Menu("top", rows, "out").rows, tuple((digit, "out") for digit in "0123456789"))

    def test_later_changes_of_a_list_have_no_effect(self):
        rows = list(ROWS)
        menu = Menu("top", rows, "again")
        before = menu.rows
        rows.append(("9", "out"))
        rows[0] = ("1", "out")
        self.assertEqual(menu.rows, before)
        self.assertIsNone(menu.action("9"))

    def test_every_action(self):
        for action in ACTIONS:
            menu = Menu("top", [("5", action)], action)
            self.assertEqual((menu.rows, menu.tail), ((("5", action),), action))

    def test_wrong_actions(self):
        for action in WRONG_ACTIONS:
            self.assert_invalid("rows", "top", [("5", action)], "out")
            self.assert_invalid("tail", "top", [], action)

    def test_names(self):
        for name in ["a", "z", "ab", "xyz", "zzzz", "ou", "outs", "lin", "mai", "g", "gone", "lack", "menx"]:
            self.assertEqual(Menu(name, [("1", f"line {name}")], f"call {name} {name}").name, name)

    def test_words_that_are_no_names(self):
        others = ["", "A", "aB", "a1", "a-b", "a_b", "abcde", "again", " a", "a ", "a\n", "\u00e4", "\u0430", "1"]
        for word in NOT_NAMES + others:
            self.assert_invalid("name", word, [], "out")
            for action in (f"line {word}", f"go {word}", f"call {word} top", f"call top {word}"):
                self.assert_invalid("rows", "top", [("1", action)], "out")
                self.assert_invalid("tail", "top", [], action)

    def test_names_have_letters_alone(self):
        for sign in PRINTABLE:
            for name in (sign, "a" + sign, sign + "zzz"):
                if "a" <= sign <= "z":
                    self.assertEqual(Menu(name, [], "line " + name).name, name)
                else:
                    self.assert_invalid("name", name, [], "out")
                    self.assert_invalid("tail", "top", [], "line " + name)

    def test_tries(self):
        for tries in (1, 2, 3, 10, 1000):
            self.assertEqual(Menu("top", [], "out", tries).tries, tries)
        for tries in (0, -1, True, False, None, "1", "", [1], (1,)):
            self.assert_invalid("tries", "top", [], "out", tries)

    def test_clears(self):
        for clears in (True, False):
            self.assertIs(Menu("top", [], "out", 1, clears).clears, clears)
        for clears in (0, 1, None, "", "clear", [], [True]):
            self.assert_invalid("clears", "top", [], "out", 1, clears)


class Refusing(MenuCase):
    def test_any_values_as_names(self):
        for value in any_values():
            self.assert_invalid("name", value, [], "out")

    def test_any_values_as_rows(self):
        for value in any_values():
            if value in ((), [], [("1", "back")]):
                continue
            self.assert_invalid("rows", "top", value, "out")

    def test_any_values_in_rows(self):
        for value in any_values():
            if value != ("1", "back"):
                self.assert_invalid("rows", "top", [value], "out")
                self.assert_invalid("rows", "top", (("5", "out"), value), "out")
            self.assert_invalid("rows", "top", [(value, "out")], "out")
            self.assert_invalid("rows", "top", [("1", value)], "out")

    def test_rows_are_pairs(self):
        for row in (("1",), ("1", "out", "out"), ["1", "out"], "1 out", "1o", {"1": "out"}, ("out", "1")):
            self.assert_invalid("rows", "top", [row], "out")

    def test_a_sequence_of_rows_is_a_list_or_a_tuple(self):
        for rows in ({"1": "out"}, {("1", "out")}, "", iter([])):
            self.assert_invalid("rows", "top", rows, "out")

    def test_digits(self):
        for digit in "0123456789":
            self.assertEqual(Menu("top", [(digit, "out")], "out").action(digit), "out")
        for sign in PRINTABLE:
            if sign not in "0123456789":
                self.assert_invalid("rows", "top", [(sign, "out")], "out")
        for digit in ("", "12", "00", "-", "-1", "a", " 1", "1 ", "1\n", "\u0661", "\u00b2", 1, 0, None, True):
            self.assert_invalid("rows", "top", [(digit, "out")], "out")

    def test_unlike_digits(self):
        self.assert_invalid("rows", "top", [("1", "out"), ("1", "out")], "out")
        self.assert_invalid("rows", "top", [("1", "out"), ("2", "out"), ("1", "back")], "out")
        self.assertEqual(len(Menu("top", [("1", "out"), ("2", "out")], "out").rows), 2)

    def test_any_values_as_tail(self):
        for value in any_values():
            self.assert_invalid("tail", "top", [], value)

    def test_any_values_as_tries(self):
        for value in any_values():
            if type(value) is not int or value < 1:
                self.assert_invalid("tries", "top", [], "out", value)

    def test_any_values_as_clears(self):
        for value in any_values():
            if type(value) is not bool:
                self.assert_invalid("clears", "top", [], "out", 1, value)

    def test_the_first_wrong_one_is_told(self):
        words = ["name", "rows", "tail", "tries", "clears"]
        right = ["top", [("1", "out")], "out", 1, False]
        wrongs = [["go", [("1", "1")], "1", 0, 1], [[], None, [], "1", None], [True, [1], 7, True, board()]]
        for wrong in wrongs:
            for many in range(1, 6):
                for places in itertools.combinations(range(5), many):
                    arguments = [wrong[k] if k in places else right[k] for k in range(5)]
                    self.assert_invalid(words[places[0]], *arguments)


class Asking(unittest.TestCase):
    def test_action_of_digits(self):
        menu = Menu("top", ROWS, "again")
        for digit in "0123456789":
            self.assertEqual(menu.action(digit), dict(ROWS).get(digit))

    def test_action_of_any_other_value(self):
        menu = Menu("top", [(digit, "out") for digit in "0123456789"], "again")
        for value in any_values() + ["-", "-1", "11", "else", "tail", "01"]:
            self.assertIsNone(menu.action(value))

    def test_text(self):
        self.assertEqual(str(Menu("top", ROWS, "again", 2, True)), "\n".join(TEXT))
        self.assertEqual(str(Menu("a", [], "out")), "menu a tries 1\nelse out")
        self.assertEqual(str(Menu("a", (), "go b", 12)), "menu a tries 12\nelse go b")

    def test_equality(self):
        menu = Menu("top", ROWS, "again", 2, True)
        self.assertTrue(menu == Menu("top", tuple(reversed(ROWS)), "again", 2, True))
        self.assertFalse(menu != Menu("top", ROWS, "again", 2, True))
        others = [
            Menu("to", ROWS, "again", 2, True), Menu("up", ROWS, "again", 2, True), Menu("top", ROWS, "out", 2, True),
            Menu("top", ROWS[:2], "again", 2, True), Menu("top", [("7", "out")] + ROWS[1:], "again", 2, True),
            Menu("top", ROWS, "again", 3, True), Menu("top", ROWS, "again", 2, False),
        ]
        for other in others:
            self.assertIs(menu == other, False)
            self.assertIs(other == menu, False)
            self.assertIs(menu != other, True)

    def test_equal_to_nothing_of_another_class(self):
        menu = Menu("top", [], "out")
        others = [value for value in any_values() if not isinstance(value, Menu)]
        for value in others + [str(menu), "top", object(), ("top", (), "out", 1, False)]:
            self.assertIs(menu == value, False)
            self.assertIs(value == menu, False)
            self.assertIs(menu != value, True)


class Reading(unittest.TestCase):
    def assert_text(self, at, lines):
        with self.assertRaises(InvalidText) as caught:
            Menu.read("\n".join(lines))
        self.assertEqual(caught.exception.at, at, lines)

    def test_read(self):
        self.assertEqual(Menu.read("\n".join(TEXT)), Menu("top", ROWS, "again", 2, True))
        self.assertEqual(Menu.read("menu a tries 1\nelse out"), Menu("a", [], "out"))
        self.assertEqual(Menu.read("menu a tries 99\nelse out").tries, 99)
        self.assertEqual(Menu.read("menu a tries 10\nelse out").tries, 10)
        self.assertIs(Menu.read("menu a tries 1\nelse out").clears, False)
        self.assertIs(Menu.read("menu a tries 1 clear\nelse out").clears, True)

    def test_every_action(self):
        for action in ACTIONS:
            menu = Menu("top", [("0", action), ("9", action)], action, 3)
            self.assertEqual(Menu.read(str(menu)), menu)

    def test_rows_in_any_order(self):
        for rows in itertools.permutations(TEXT[1:4]):
            self.assertEqual(str(Menu.read("\n".join([TEXT[0], *rows, TEXT[4]]))), "\n".join(TEXT))

    def test_a_line_is_missing(self):
        self.assert_text(0, TEXT[1:])
        self.assert_text(4, TEXT[:4])
        self.assert_text(1, TEXT[:1])
        self.assert_text(0, [TEXT[4]])
        for at in (1, 2, 3):
            self.assertEqual(len(Menu.read("\n".join(TEXT[:at] + TEXT[at + 1:])).rows), 2)

    def test_a_line_is_there_twice(self):
        for at in range(5):
            self.assert_text(at + 1, TEXT[:at + 1] + TEXT[at:])

    def test_a_digit_is_there_twice(self):
        self.assert_text(4, TEXT[:4] + ["3 out"] + TEXT[4:])
        self.assert_text(2, TEXT[:2] + ["0 out"] + TEXT[2:])

    def test_lines_are_exchanged(self):
        first = {(0, k): 0 for k in range(1, 5)} | {(k, 4): k + 1 for k in range(1, 4)}
        for (one, other), at in first.items():
            lines = list(TEXT)
            lines[one], lines[other] = lines[other], lines[one]
            self.assert_text(at, lines)

    def test_lines_behind_the_last_one(self):
        for line in ("", " ", "1 out", "else out", "menu pay tries 1", "9 back"):
            self.assert_text(5, TEXT + [line])
            self.assert_text(5, TEXT + [line, line])

    def test_empty_texts_and_lines(self):
        self.assert_text(0, [""])
        self.assert_text(0, ["", ""])
        for at in range(5):
            self.assert_text(at, TEXT[:at] + [""] + TEXT[at:])
            self.assert_text(at, TEXT[:at] + [""] + TEXT[at + 1:])

    def test_odd_first_lines(self):
        odd = [
            "menu", "menu top", "menu top tries", "menu top tries ", "menu tries 2", "top tries 2", "menu top 2",
            "menu top tries 2 ", " menu top tries 2", "menu  top tries 2", "menu top  tries 2", "menu top tries  2",
            "menu top tries 2  clear", "menu top tries 2 clear ", "menu top tries 2 clear clear", "menu top tries 2 x",
            "menu top tries clear", "menu top tries 2clear", "Menu top tries 2", "menu top Tries 2", "clear",
            "menu top tries 2 Clear", "menu Top tries 2", "menu line tries 2", "menu abcde tries 2", "menu t0p tries 2",
            "menu top tries x", "menu top tries -1", "menu top tries +1", "menu top tries 1.0", "menu top tries 1_0",
            "menu top tries 02", "menu top tries 00", "menu top tries 100", "menu top tries 002", "menu top tries 2\r",
            "menu top tries \u0662", "menu top tries \u00b2", "menu\ttop\ttries\t2", "menu top tries 2 2",
            "menu top tries 2 lear", "menu top tries 2 clea", "menu top tries 2 clears", "menu top tries 1a",
            "0 back", "else out", "men top tries 2", "enu top tries 2", "line top tries 2", "menu top trie 2",
            "menu top ries 2", "zenu top tries 2", "menu top zries 2", "menu top  2", "menu top tries q",
        ]
        for line in odd:
            self.assert_text(0, [line] + TEXT[1:])

    def test_odd_rows(self):
        odd = [
            "1", "1 ", " 1 back", "1  back", "1 back ", "1back", "12 back", "a back", "-1 back", "- back", "1\tback",
            "\u0661 back", "1 back\r", "back", "else", "else ", "else  out", "else out ", " else out", "Else out",
            "1 else out", "else 1 out", "# 1 back", "menu top tries 2", "els out", "lse out", " out", "elsea out",
        ]
        for at in range(1, 5):
            for line in odd + ["1 " + action for action in WRONG_ACTIONS if "\n" not in action]:
                self.assert_text(at, TEXT[:at] + [line] + TEXT[at:])
                self.assert_text(at, TEXT[:at] + [line] + TEXT[at + 1:])

    def test_odd_last_lines(self):
        for action in WRONG_ACTIONS:
            if "\n" not in action:
                self.assert_text(4, TEXT[:4] + ["else " + action])

    def test_other_signs_break_no_line(self):
        for sign in "\r\t\v\f\x1c\x85\u2028":
            self.assert_text(4, TEXT[:4] + ["else out" + sign])
            self.assert_text(0, [TEXT[0] + sign + TEXT[1]] + TEXT[2:])

    def test_the_first_of_several_is_told(self):
        self.assert_text(1, [TEXT[0], "x", "y", TEXT[0]])
        self.assert_text(0, ["x"])
        self.assert_text(0, ["menu top tries 2 x", "9"])

    def test_then_the_errors_of_menu(self):
        for lines in (["menu top tries 0", "else out"], ["menu top tries 0 clear"] + TEXT[1:]):
            with self.assertRaises(InvalidMenu) as caught:
                Menu.read("\n".join(lines))
            self.assertEqual(caught.exception.word, "tries")
        self.assert_text(2, ["menu top tries 0", "1 out"])
        self.assert_text(1, ["menu top tries 0", "x", "else out"])


if __name__ == "__main__":
    unittest.main()
