"""Boards: the menus that lead whoever calls a house."""

from menuhome.errors import InvalidBoard, NoMenu
from menuhome.menus import Menu, actions_of, named_lines, named_menus, read_part


def are_menus(value):
    """Whether any value is a sequence of at least one menu."""
    if not isinstance(value, (list, tuple)) or len(value) == 0:
        return False
    return all([isinstance(menu, Menu) for menu in value])


def actions_in(menus):
    """All actions of these menus."""
    return [action for menu in menus for action in actions_of(menu)]


def wrong_word(menus):
    """What is wrong with any value as the menus of a board, or None."""
    if not are_menus(menus):
        return "menus"
    names = [menu.name for menu in menus]
    if len(set(names)) < len(names):
        return "name"
    if not all([name in names for action in actions_in(menus) for name in named_menus(action)]):
        return "menu"
    return None


def read_parts(text):
    """The arguments of all menus in the text of a board."""
    lines = text.split("\n")
    parts = []
    start = 0
    while start < len(lines):
        part, start = read_part(lines, start)
        parts.append(part)
    return parts


class Board:
    """A board of menus; the first one is the main menu."""

    def __init__(self, menus):
        word = wrong_word(menus)
        if word is not None:
            raise InvalidBoard(word)
        self.menus = tuple(menus)
        self.names = tuple([menu.name for menu in menus])
        self.lines = tuple(sorted({line for action in actions_in(menus) for line in named_lines(action)}))

    @classmethod
    def read(cls, text):
        """The board with a text."""
        # All lines are read ahead of the first menu that is made: what is wrong with the text comes first.
        parts = read_parts(text)
        return cls([Menu(*part) for part in parts])

    def menu(self, name):
        """The menu with a name."""
        for menu in self.menus:
            if menu.name == name:
                return menu
        raise NoMenu(name)

    def having(self, name, digit, action):
        """The board in which the menu with a name has this row."""
        old = self.menu(name)
        rows = [row for row in old.rows if row[0] != digit]
        new = Menu(old.name, [*rows, (digit, action)], old.tail, old.tries, old.clears)
        return Board([new if menu.name == name else menu for menu in self.menus])

    def __len__(self):
        return len(self.menus)

    def __eq__(self, other):
        return isinstance(other, Board) and self.menus == other.menus

    def __str__(self):
        return "\n".join([str(menu) for menu in self.menus])
