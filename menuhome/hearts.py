"""Early digits: lines that can be pressed by heart, all digits at once."""

from menuhome.menus import DIGITS
from menuhome.reckoning import cheapest, check_line, planned, row_moves, tail_move

# The main menu as a call begins: it waits ahead of all digits, so it drops none even if it clears.
BEGINNING = ""


def pressed_moves(menu):
    """The moves of a caller who presses digits alone."""
    wrong = [digit for digit in DIGITS if menu.action(digit) is None]
    return row_moves(menu) + [tail_move(menu, digit) for digit in wrong[:1]]


def heart_plans(board, line):
    """The plans for one event of digits that comes to a line."""
    # What starts and clears drops all digits that would lead on from it.
    table = {menu.name: [] if menu.clears else pressed_moves(menu) for menu in board.menus}
    table[BEGINNING] = pressed_moves(board.menus[0])
    _, plans = cheapest(board, table, (line,))
    return plans


def by_heart(board, goal):
    """A shortest event of digits that comes to a line by its last digit, as the first one of a call, or None."""
    check_line(board, goal)
    digits = planned(heart_plans(board, goal), (BEGINNING, "to"))
    return None if digits is None else "".join(digits)


def hearts(board):
    """The lines that can be pressed by heart."""
    return tuple([line for line in board.lines if by_heart(board, line) is not None])
