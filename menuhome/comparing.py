"""Comparing: menus that are alike, and boards in which one stands for all of its kind.

Heaps are told as a dict: the name of each menu leads to that of the first
menu, in the order of the board, of its heap.
"""

from menuhome.boards import Board
from menuhome.menus import Menu


def led_action(action, firsts):
    """An action with the first menu of its heap in the place of each menu."""
    kind, *names = action.split(" ")
    if kind == "line":
        return action
    return " ".join([kind, *[firsts[name] for name in names]])


def led_menu(menu, firsts):
    """A menu with the first menu of its heap in the place of each menu, itself included."""
    rows = [(digit, led_action(action, firsts)) for digit, action in menu.rows]
    return Menu(firsts[menu.name], rows, led_action(menu.tail, firsts), menu.tries, menu.clears)


def finer_heaps(board, firsts):
    """Heaps of those menus that were in one heap, and cannot be told apart by what leads to these heaps."""
    known = {}
    finer = {}
    for menu in board.menus:
        finer[menu.name] = known.setdefault(str(led_menu(menu, firsts)), menu.name)
    return finer


def coarsest_heaps(board):
    """The coarsest heaps of menus that are alike."""
    # All in one heap at first: menus are told apart only for a reason, so the heaps stay as coarse as can be.
    firsts = {name: board.names[0] for name in board.names}
    finer = finer_heaps(board, firsts)
    while finer != firsts:
        firsts = finer
        finer = finer_heaps(board, firsts)
    return firsts


def alike(board, one, other):
    """Whether two menus of a board are alike."""
    first = board.menu(one)
    second = board.menu(other)
    firsts = coarsest_heaps(board)
    return firsts[first.name] == firsts[second.name]


def heaps(board):
    """The heaps of menus that are alike, in the order of the board."""
    firsts = coarsest_heaps(board)
    heads = [name for name in board.names if firsts[name] == name]
    return tuple([tuple([name for name in board.names if firsts[name] == head]) for head in heads])


def merged(board):
    """The board with the first menu of each heap alone, in the place of the others too."""
    firsts = coarsest_heaps(board)
    return Board([led_menu(menu, firsts) for menu in board.menus if firsts[menu.name] == menu.name])
