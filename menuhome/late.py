"""Late digits: those that choose in a menu for which they were not meant."""

from menuhome.calls import stack_behind
from menuhome.deciding import beneath, comes


def next_menu(board, menu, due):
    """The menu that starts when this one has no tries left, with this name due first or none, or None."""
    stack = (menu.name,) if due == "" else (menu.name, due)
    behind = stack_behind(board, stack, menu.tail)
    return board.menu(behind[0]) if len(behind) > 0 else None


def digits_astray(menu, other):
    """The digits that go astray from a menu to the one that starts behind it."""
    if other is None or other.name == menu.name or other.clears:
        return []
    return [digit for digit, action in menu.rows if other.action(digit) is not None]


def astray(board):
    """All triples (menu, digit, other menu) of digits that go astray."""
    found = []
    for name in comes(board):
        menu = board.menu(name)
        for due in beneath(board, name):
            other = next_menu(board, menu, due)
            found.extend([(name, digit, other.name) for digit in digits_astray(menu, other)])
    return tuple(sorted(set(found)))
