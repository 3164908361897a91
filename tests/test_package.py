"""The interface: its names, arguments and places; and what [1] to [3] say of everything."""

import ast
import inspect
import pathlib
import unittest

import menuhome
import menuhome.boards
import menuhome.calls
import menuhome.errors
import menuhome.menus
from menuhome.boards import Board
from menuhome.calls import Played, play
from menuhome.errors import InvalidMenu, NoMenu
from menuhome.menus import Menu
from samples import LINES, board

CLASSES = {
    menuhome.errors: {
        "MenuError": (None, []),
        "InvalidMenu": (["word"], []),
        "InvalidBoard": (["word"], []),
        "InvalidText": (["at"], []),
        "InvalidEvent": (["at"], []),
        "InvalidStack": (["at"], []),
        "InvalidGoal": (None, []),
        "InvalidCommand": (None, []),
        "Refused": (["at"], []),
        "NoMenu": (["name"], []),
    },
    menuhome.menus: {
        "Menu": (["name", "rows", "tail", "tries", "clears"], ["action", "read", "__eq__", "__str__"]),
    },
    menuhome.boards: {
        "Board": (["menus"], ["menu", "having", "read", "__len__", "__eq__", "__str__"]),
    },
    menuhome.calls: {
        "Played": (None, []),
    },
}


def parameters(function):
    return list(inspect.signature(function).parameters)


class Interface(unittest.TestCase):
    def test_classes_stand_in_their_files(self):
        for module, classes in CLASSES.items():
            for name, (arguments, methods) in classes.items():
                kind = getattr(module, name)
                self.assertTrue(inspect.isclass(kind))
                self.assertEqual(kind.__module__, module.__name__)
                if arguments is not None:
                    self.assertEqual(parameters(kind), arguments)
                for method in methods:
                    self.assertIn(method, vars(kind))

    def test_arguments_of_methods(self):
        self.assertEqual(parameters(Menu.action), ["self", "digit"])
        self.assertEqual(parameters(Menu.read), ["text"])
        self.assertEqual(parameters(Board.menu), ["self", "name"])
        self.assertEqual(parameters(Board.having), ["self", "name", "digit", "action"])
        self.assertEqual(parameters(Board.read), ["text"])
        self.assertIsInstance(vars(Menu)["read"], classmethod)
        self.assertIsInstance(vars(Board)["read"], classmethod)

    def test_play_stands_in_its_file(self):
        self.assertEqual(parameters(play), ["board", "events"])
        self.assertEqual(play.__module__, "menuhome.calls")

    def test_defaults(self):
        menu = Menu("top", [], "out")
        self.assertEqual(menu.tries, 1)
        self.assertIs(menu.clears, False)

    def test_package_file_is_empty_but_for_a_docstring(self):
        path = pathlib.Path(menuhome.__file__)
        body = ast.parse(path.read_text(encoding="utf-8")).body
        self.assertEqual(len(body), 1)
        self.assertIsInstance(body[0].value.value, str)


class Basics(unittest.TestCase):
    def test_arguments_by_name(self):
        menu = Menu(name="top", rows=[("1", "out")], tail="again", tries=2, clears=True)
        self.assertEqual(menu, Menu("top", [("1", "out")], "again", 2, True))
        self.assertEqual(Menu(clears=True, tries=2, tail="again", rows=[("1", "out")], name="top"), menu)
        self.assertEqual(menu.action(digit="1"), "out")
        self.assertEqual(Menu.read(text=str(menu)), menu)
        self.assertEqual(Board(menus=[menu]), Board([menu]))
        self.assertEqual(Board.read(text=str(menu)), Board([menu]))
        self.assertEqual(Board([menu]).menu(name="top"), menu)
        self.assertEqual(
            Board([menu]).having(name="top", digit="2", action="out"), Board([menu]).having("top", "2", "out")
        )
        self.assertEqual(play(board=board(), events=["3"]).end, "desk")

    def test_nothing_is_iterable(self):
        top = board().menu("top")
        for value in (top, board(), play(board(), []), InvalidMenu("rows"), NoMenu("top")):
            with self.assertRaises(TypeError):
                iter(value)
            with self.assertRaises(TypeError):
                list(value)
        with self.assertRaises(TypeError):
            "top" in board()

    def test_what_is_returned_in_order_is_a_tuple(self):
        shown = board()
        played = play(shown, ["1"])
        top = shown.menu("top")
        for value in (shown.menus, shown.names, shown.lines, top.rows, top.rows[0], played.stack, played.started):
            self.assertIs(type(value), tuple)
        self.assertIs(type(play(shown, ["3"]).stack), tuple)

    def test_the_same_call_returns_the_same(self):
        shown = board()
        first = vars(play(shown, ["1", "-1"]))
        play(shown, ["3"])
        shown.having("top", "3", "out")
        Board.read("\n".join(LINES))
        self.assertEqual(vars(play(shown, ["1", "-1"])), first)
        self.assertEqual(shown, board())

    def test_arguments_stay_as_they_are(self):
        rows = [("9", "out"), ("1", "back")]
        menus = [Menu("top", rows, "out"), Menu("pay", (), "out")]
        events = ["1", "-"]
        shown = Board(menus)
        with self.assertRaises(ValueError):
            play(shown, events)
        self.assertEqual(rows, [("9", "out"), ("1", "back")])
        self.assertEqual([menu.name for menu in menus], ["top", "pay"])
        self.assertEqual(events, ["1", "-"])

    def test_beyond_the_limits(self):
        rows = [(str(digit), "line x") for digit in range(9)]
        menus = [Menu(name, rows, "again", 99) for name in "abcdefghij"]
        shown = Board(menus)
        self.assertEqual(Board.read(str(shown)), shown)
        self.assertEqual(len(shown), 10)
        self.assertEqual(play(shown, ["9" * 50]).presses, 50)
        self.assertEqual(play(shown, ["-"] * 200).tries, 97)
        deep = Board([Menu("a", [("1", "call a a")], "back")])
        self.assertEqual(play(deep, ["1"] * 40).stack, ("a",) * 41)
        self.assertEqual(play(deep, ["1" * 40 + "2" * 40]).stack, ("a",))


if __name__ == "__main__":
    unittest.main()
