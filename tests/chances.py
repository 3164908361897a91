"""Boards made by chance, the same ones in each run."""

from menuhome.boards import Board
from menuhome.menus import Menu

NAMES = ["a", "b", "c", "d", "e", "f"]


def some_action(chance, names, lines):
    one, other = chance.choice(names), chance.choice(names)
    few = [f"line {line}" for line in lines] + ["out", "main"]
    many = ["again", "back", "back", f"go {one}", f"call {one} {other}", f"call {other} {one}"]
    return chance.choice(few + many * 2)


def some_menu(chance, name, names, lines, rows):
    # Few digits, so that several menus have rows with the same ones.
    digits = chance.sample("123456"[:rows + 1], chance.randint(0, rows))
    pairs = [(digit, some_action(chance, names, lines)) for digit in digits]
    return Menu(name, pairs, some_action(chance, names, lines), chance.randint(1, 3), chance.random() < 0.3)


def some_board(chance, menus, rows, lines=("x", "y")):
    names = NAMES[:menus]
    return Board([some_menu(chance, name, names, lines, rows) for name in names])


def full_board(chance):
    """A board of six menus with five rows and three tries each."""
    lines = ("x", "y")
    menus = []
    for name in NAMES:
        rows = [(digit, some_action(chance, NAMES, lines)) for digit in "12345"]
        menus.append(Menu(name, rows, some_action(chance, NAMES, lines), 3, chance.random() < 0.3))
    return Board(menus)


def some_event(chance):
    digits = "".join(chance.choice("123456") for _ in range(chance.randint(1, 3)))
    return chance.choice([digits, digits[0], "-", "-" + digits[0]])


def twin_board(chance, menus, twins, rows, lines=("x", "y")):
    """A board with twins of some menus, in any order, some of them with one thing otherwise."""
    names = NAMES[:menus]
    single = [some_menu(chance, name, names, lines, rows) for name in names]
    named = {name: [name] for name in names}
    doubles = []
    for twin in NAMES[menus:menus + twins]:
        menu = chance.choice(single)
        named[menu.name].append(twin)
        doubles.append(Menu(twin, menu.rows, menu.tail, menu.tries, menu.clears))
    found = [twin_menu(chance, menu, named) for menu in single + doubles]
    chance.shuffle(found)
    return Board(found)


def twin_menu(chance, menu, named):
    """A menu that leads to any twins of those that it led to, and seldom is otherwise itself."""
    def led(action):
        kind, *names = action.split(" ")
        return action if kind == "line" else " ".join([kind, *[chance.choice(named[name]) for name in names]])

    tries = chance.randint(1, 3) if chance.random() < 0.1 else menu.tries
    tail = some_action(chance, list(named), ("x", "y")) if chance.random() < 0.1 else menu.tail
    return Menu(menu.name, [(digit, led(action)) for digit, action in menu.rows], led(tail), tries, menu.clears)
