"""Boards: [7]."""

import unittest

from menuhome.boards import Board
from menuhome.errors import InvalidBoard, InvalidMenu, InvalidText, NoMenu
from menuhome.menus import Menu
from samples import ACTIONS, LINES, WRONG_ACTIONS, any_values, board


def menus():
    """The menus of the document's board."""
    return [
        Menu("top", [("1", "call pay bye"), ("2", "go ask"), ("3", "line desk")], "again", 2),
        Menu("pay", [("1", "line cash"), ("2", "back")], "back"),
        Menu("ask", [("1", "go ask")], "out", 1, True),
        Menu("bye", [("1", "again"), ("9", "back")], "out"),
    ]


class Making(unittest.TestCase):
    def assert_invalid(self, word, value):
        with self.assertRaises(InvalidBoard) as caught:
            Board(value)
        self.assertEqual(caught.exception.word, word)

    def test_attributes(self):
        for value in (menus(), tuple(menus())):
            made = Board(value)
            self.assertEqual(made.menus, tuple(menus()))
            self.assertEqual(made.names, ("top", "pay", "ask", "bye"))
            self.assertEqual(made.lines, ("cash", "desk"))
            self.assertEqual(len(made), 4)

    def test_one_menu(self):
        made = Board([Menu("a", [], "again")])
        self.assertEqual((made.names, made.lines, len(made)), (("a",), (), 1))

    def test_names_keep_their_order(self):
        made = Board([Menu(name, [], "out") for name in ("z", "a", "mm", "b")])
        self.assertEqual(made.names, ("z", "a", "mm", "b"))

    def test_lines_are_those_of_rows_and_tails_once_each(self):
        made = Board([
            Menu("a", [("1", "line zoo"), ("2", "line b"), ("3", "go b")], "line b"),
            Menu("b", [("1", "line zoo"), ("2", "call a b")], "line ape"),
        ])
        self.assertEqual(made.lines, ("ape", "b", "zoo"))

    def test_later_changes_of_a_list_have_no_effect(self):
        value = menus()
        made = Board(value)
        value.append(Menu("new", [("1", "line new")], "out"))
        value[0] = value[1]
        self.assertEqual(made, board())
        self.assertEqual((made.names, made.lines, len(made)), (("top", "pay", "ask", "bye"), ("cash", "desk"), 4))

    def test_no_sequence_of_menus(self):
        for value in any_values():
            self.assert_invalid("menus", value)
            self.assert_invalid("menus", [Menu("a", [], "out"), value] if not isinstance(value, Menu) else value)
            self.assert_invalid("menus", (value, Menu("a", [], "out")) if not isinstance(value, Menu) else value)
        self.assert_invalid("menus", {Menu: 1})
        self.assert_invalid("menus", ["menu a tries 1\nelse out"])
        self.assert_invalid("menus", [[Menu("a", [], "out")]])

    def test_two_have_the_same_name(self):
        one = Menu("a", [], "out")
        self.assert_invalid("name", [one, one])
        self.assert_invalid("name", [Menu("b", [], "out"), one, Menu("a", [("1", "back")], "back")])

    def test_an_action_names_a_menu_that_there_is_not(self):
        for action in ("go b", "call b a", "call a b"):
            self.assert_invalid("menu", [Menu("a", [("1", action)], "out")])
            self.assert_invalid("menu", [Menu("a", [], action)])
            self.assert_invalid("menu", [Menu("c", [], "out"), Menu("a", [("1", "out"), ("2", action)], "out")])
            self.assertEqual(len(Board([Menu("a", [("1", action)], action), Menu("b", [], "out")])), 2)

    def test_lines_are_no_menus(self):
        self.assertEqual(Board([Menu("a", [("1", "line b")], "line a")]).lines, ("a", "b"))
        self.assert_invalid("menu", [Menu("a", [("1", "line b")], "go b")])

    def test_several_faults(self):
        faulty = Menu("a", [], "go b")
        self.assert_invalid("menus", [faulty, faulty, None])
        self.assert_invalid("menus", [None, faulty])
        self.assert_invalid("name", [faulty, faulty])
        self.assert_invalid("name", [faulty, Menu("c", [], "out"), Menu("c", [], "out")])


class Asking(unittest.TestCase):
    def test_menu(self):
        for menu in menus():
            self.assertEqual(board().menu(menu.name), menu)

    def test_no_menu(self):
        for value in any_values() + ["cash", "to", "topp", "line"]:
            with self.assertRaises(NoMenu) as caught:
                board().menu(value)
            self.assertIs(caught.exception.name, value)

    def test_text(self):
        self.assertEqual(str(board()), "\n".join(LINES))
        self.assertEqual(str(board()), "\n".join(str(menu) for menu in menus()))
        self.assertEqual(str(Board([Menu("a", [], "out")])), "menu a tries 1\nelse out")

    def test_equality(self):
        self.assertTrue(Board(menus()) == board())
        self.assertFalse(Board(menus()) != board())
        rows = [("3", "line desk"), ("1", "call pay bye"), ("2", "go ask")]
        self.assertTrue(Board([Menu("top", rows, "again", 2)] + menus()[1:]) == board())
        others = [
            Board(menus()[::-1]), Board([menus()[1]]), Board(menus() + [Menu("new", [], "out")]),
            Board(menus()[:3] + [Menu("bye", [("1", "again"), ("9", "back")], "out", 2)]),
        ]
        for other in others:
            self.assertIs(board() == other, False)
            self.assertIs(board() != other, True)

    def test_equal_to_nothing_of_another_class(self):
        single = Board([Menu("top", [], "out")])
        others = [value for value in any_values() if not isinstance(value, Board)]
        for value in others + [str(single), single.menus, list(single.menus), single.menus[0], object()]:
            self.assertIs(single == value, False)
            self.assertIs(value == single, False)
            self.assertIs(single != value, True)


class Having(unittest.TestCase):
    def test_a_new_row(self):
        new = board().having("pay", "0", "go top")
        self.assertEqual(new.menu("pay").rows, (("0", "go top"), ("1", "line cash"), ("2", "back")))
        self.assertEqual(new.names, board().names)
        for name in ("top", "ask", "bye"):
            self.assertEqual(new.menu(name), board().menu(name))

    def test_a_row_in_the_place_of_another_one(self):
        new = board().having("pay", "1", "line new")
        self.assertEqual(new.menu("pay").rows, (("1", "line new"), ("2", "back")))
        self.assertEqual(new.lines, ("desk", "new"))
        self.assertEqual(board().having("pay", "1", "line cash"), board())

    def test_the_rest_of_the_menu_stays(self):
        new = board().having("ask", "2", "back").menu("ask")
        self.assertEqual(new, Menu("ask", [("1", "go ask"), ("2", "back")], "out", 1, True))
        new = board().having("top", "2", "back").menu("top")
        self.assertEqual((new.tail, new.tries, new.clears), ("again", 2, False))

    def test_every_action(self):
        for action in ACTIONS:
            self.assertEqual(board().having("ask", "5", action).menu("ask").action("5"), action)

    def test_the_board_stays_as_it_is(self):
        shown = board()
        shown.having("pay", "1", "line new")
        shown.having("pay", "5", "out")
        for arguments in (("no", "1", "out"), ("pay", "x", "out"), ("pay", "1", "x"), ("pay", "1", "go no")):
            with self.assertRaises((NoMenu, InvalidMenu, InvalidBoard)):
                shown.having(*arguments)
        self.assertEqual(shown, board())
        self.assertEqual((shown.names, shown.lines), (board().names, board().lines))
        self.assertEqual(shown.menu("pay").rows, (("1", "line cash"), ("2", "back")))

    def test_no_menu_comes_first(self):
        for value in any_values() + ["cash", "no"]:
            for digit, action in (("1", "out"), (value, value), ("1", "go no"), ("12", "back")):
                with self.assertRaises(NoMenu) as caught:
                    board().having(value, digit, action)
                self.assertIs(caught.exception.name, value)

    def assert_rows(self, digit, action):
        with self.assertRaises(InvalidMenu) as caught:
            board().having("top", digit, action)
        self.assertEqual(caught.exception.word, "rows")

    def test_then_no_digit_and_action(self):
        for value in any_values():
            self.assert_rows(value, "out")
            self.assert_rows("1", value)
            self.assert_rows("8", value)
            self.assert_rows(value, value)
            self.assert_rows(value, "go no")
        for action in WRONG_ACTIONS:
            self.assert_rows("1", action)
        for digit in ("", "11", "-", "a", 1):
            self.assert_rows(digit, "out")

    def test_then_invalid_board(self):
        for action in ("go no", "call no top", "call top no"):
            for digit in ("1", "8"):
                with self.assertRaises(InvalidBoard) as caught:
                    board().having("top", digit, action)
                self.assertEqual(caught.exception.word, "menu")


class Reading(unittest.TestCase):
    def assert_text(self, at, lines):
        with self.assertRaises(InvalidText) as caught:
            Board.read("\n".join(lines))
        self.assertEqual(caught.exception.at, at, lines)

    def assert_menu(self, lines):
        with self.assertRaises(InvalidMenu) as caught:
            Board.read("\n".join(lines))
        self.assertEqual(caught.exception.word, "tries")

    def assert_board(self, word, lines):
        with self.assertRaises(InvalidBoard) as caught:
            Board.read("\n".join(lines))
        self.assertEqual(caught.exception.word, word)

    def test_read(self):
        self.assertEqual(board(), Board(menus()))
        self.assertEqual(Board.read("menu a tries 1\nelse out"), Board([Menu("a", [], "out")]))
        self.assertEqual(len(Board.read("menu a tries 1\nelse go b\nmenu b tries 3 clear\nelse back")), 2)

    def test_rows_in_any_order(self):
        lines = [LINES[0], LINES[3], LINES[1], LINES[2]] + LINES[4:6] + [LINES[7], LINES[6]] + LINES[8:]
        self.assertEqual(str(Board.read("\n".join(lines))), "\n".join(LINES))

    def test_a_line_is_missing(self):
        heads_and_elses = {0: 0, 4: 4, 5: 5, 8: 8, 9: 9, 11: 11, 12: 12, 15: 15}
        for at, told in heads_and_elses.items():
            self.assert_text(told, LINES[:at] + LINES[at + 1:])
        for at in set(range(16)) - set(heads_and_elses):
            self.assertEqual(len(Board.read("\n".join(LINES[:at] + LINES[at + 1:]))), 4)

    def test_a_line_is_there_twice(self):
        for at in range(16):
            self.assert_text(at + 1, LINES[:at + 1] + LINES[at:])

    def test_a_digit_may_be_there_in_each_menu_once(self):
        self.assert_text(7, LINES[:7] + ["1 back"] + LINES[8:])
        self.assert_text(14, LINES[:14] + ["1 back"] + LINES[15:])

    def test_lines_are_exchanged(self):
        for (one, other), at in {(0, 1): 0, (3, 4): 4, (4, 5): 4, (8, 9): 8, (7, 9): 7, (12, 15): 12}.items():
            lines = list(LINES)
            lines[one], lines[other] = lines[other], lines[one]
            self.assert_text(at, lines)

    def test_odd_lines(self):
        for line in ("", " ", "x", "menu", "1", "else", "else out ", "1  back", "menu top tries", "go ask", "12 back"):
            for at in range(17):
                self.assert_text(at, LINES[:at] + [line] + LINES[at:])
            for at in range(16):
                self.assert_text(at, LINES[:at] + [line] + LINES[at + 1:])

    def test_a_text_that_ends_early(self):
        for many in (1, 2, 3, 4, 6, 7, 8, 10, 11, 13, 14, 15):
            self.assert_text(many, LINES[:many])

    def test_empty_texts_and_lines(self):
        self.assert_text(0, [""])
        self.assert_text(0, ["", ""])
        self.assert_text(16, LINES + [""])
        self.assert_text(16, LINES + ["", ""])
        self.assert_text(5, LINES[:5] + [""] + LINES[5:])

    def test_the_first_of_several_is_told(self):
        self.assert_text(2, LINES[:2] + ["x"] + LINES[2:] + ["y"])
        self.assert_text(7, LINES[:7] + ["x"])

    def test_then_invalid_menu(self):
        none_left = "menu top tries 0"
        self.assert_menu([none_left] + LINES[1:])
        self.assert_menu(LINES[:9] + ["menu ask tries 0 clear"] + LINES[10:])
        self.assert_text(16, [none_left] + LINES[1:] + ["x"])
        self.assert_text(15, [none_left] + LINES[1:15])
        self.assert_menu([none_left, "else go no", "menu top tries 1", "else out"])

    def test_then_invalid_board(self):
        self.assert_board("name", LINES + LINES[5:9])
        self.assert_board("menu", LINES[:9])
        self.assert_board("menu", LINES[:15] + ["else go no"])
        self.assert_board("name", ["menu a tries 1", "else go b", "menu a tries 2", "else out"])
        self.assert_text(2, ["menu a tries 1", "else go b", "menu a tries"])


if __name__ == "__main__":
    unittest.main()
