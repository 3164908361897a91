"""Boards made by chance, the same ones in each run."""

from menuhome.boards import Board
from menuhome.menus import Menu

NAMES = ["a", "b", "c", "d", "e", "f"]


def some_action(chance, names, lines):
    one, other = chance.choice(names), chance.choice(names)
    few = [f"line {line}" for line in lines] + ["out", "main"]
    many = ["again", "back", "back", f"go {one}", f"call {one} {other}", f"call {other} {one}"]
    return chance.choice(few + many * 2)


def some_menu(chance, name, names, lines, rows):
    # Few digits, so that several menus have rows with the same ones.
    digits = chance.sample("123456"[:rows + 1], chance.randint(0, rows))
    pairs = [(digit, some_action(chance, names, lines)) for digit in digits]
    return Menu(name, pairs, some_action(chance, names, lines), chance.randint(1, 3), chance.random() < 0.3)


def some_board(chance, menus, rows, lines=("x", "y")):
    names = NAMES[:menus]
    return Board([some_menu(chance, name, names, lines, rows) for name in names])


def full_board(chance):
    """A board of six menus with five rows and three tries each."""
    lines = ("x", "y")
    menus = []
    for name in NAMES:
        rows = [(digit, some_action(chance, NAMES, lines)) for digit in "12345"]
        menus.append(Menu(name, rows, some_action(chance, NAMES, lines), 3, chance.random() < 0.3))
    return Board(menus)
