"""What several tests use: the board of the document, and values of every kind."""

from menuhome.boards import Board
from menuhome.calls import play
from menuhome.errors import InvalidMenu, NoMenu
from menuhome.menus import Menu

LINES = [
    "menu top tries 2", "1 call pay bye", "2 go ask", "3 line desk", "else again",
    "menu pay tries 1", "1 line cash", "2 back", "else back",
    "menu ask tries 1 clear", "1 go ask", "else out",
    "menu bye tries 1", "1 again", "9 back", "else out",
]

NOT_NAMES = ["line", "out", "main", "back", "go", "call", "menu", "else", "none"]

ACTIONS = ["line cash", "out", "again", "main", "go top", "call pay top", "back"]

WRONG_ACTIONS = [
    "", " ", "line", "line ", "line cash desk", "line Cash", "line abcde", "line out", "line 1", "out out", "out ",
    " out", "Out", "again again", "again top", "main top", "go", "go ", "go top pay", "go  top", "go main", "go go",
    "call", "call pay", "call pay ", "call pay top bye", "call  pay top", "call pay  top", "call pay else",
    "call none top", "back back", "back top", "back\n", "back\t", "line\tcash", "line cash\n", "else", "jump", "none",
    "line \u00e4", "go t0p", "top",
]


def board():
    """The board of the document."""
    return Board.read("\n".join(LINES))


def read(*menus):
    """The board with the texts of these menus."""
    return Board.read("\n".join(menus))


def nested(depth):
    """Lists and tuples in each other, so many deep."""
    value = "1"
    for level in range(depth):
        value = [value] if level % 2 else (value,)
    return value


def any_values():
    """Any values, none of which is a name, a digit, an action, an event or a sequence of menus."""
    menu = Menu("top", [], "out")
    return [
        0, 1, 2, -1, 10 ** 30, True, False, None, "", " ", "\n", "a b", "12345", "abcde", "Top", "\u00e4", "\u0663",
        "\u00b2", (), [], [[]], ((),), ["1"], ("1", "back"), ["1", "back"], [("1", "back")], [None, True],
        nested(8), [menu, 1], menu, board(), play(board(), []), InvalidMenu("rows"), NoMenu("x"),
        [InvalidMenu("rows"), [board()]],
    ]
