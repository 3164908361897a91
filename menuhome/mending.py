"""Mending: the single rows that a board lacks, and those that it does not need."""

from menuhome.boards import Board
from menuhome.deciding import caught, fewest_to
from menuhome.menus import DIGITS, Menu


def mending_words(board, name, digit):
    """The words that, each alone as the action of this digit, leave no menu caught."""
    return [word for word in ("back", "main") if len(caught(board.having(name, digit, word))) == 0]


def mends(board):
    """All triples (menu, digit, word) of rows that, put in alone, leave no menu caught."""
    found = []
    for menu in board.menus:
        for digit in DIGITS:
            if menu.action(digit) is None:
                found.extend([(menu.name, digit, word) for word in mending_words(board, menu.name, digit)])
    return tuple(sorted(found))


def without(menu, digit):
    """A menu without its row with a digit."""
    return Menu(menu.name, [row for row in menu.rows if row[0] != digit], menu.tail, menu.tries, menu.clears)


def lacking(board, name, digit):
    """The board without the row of a menu with a digit."""
    return Board([without(menu, digit) if menu.name == name else menu for menu in board.menus])


def presses_to(board, lines):
    """The fewest presses from the beginning of a call to each of these lines."""
    return [fewest_to(board, board.names[:1], line) for line in lines]


def needless(board):
    """All pairs (menu, digit) of rows without which, each alone, as much can be come to by as few presses."""
    told = presses_to(board, board.lines)
    rows = [(menu.name, digit) for menu in board.menus for digit, action in menu.rows]
    # Without a row the board may have fewer lines; those that it had are asked for all the same.
    return tuple(sorted([row for row in rows if presses_to(lacking(board, *row), board.lines) == told]))
