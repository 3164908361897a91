"""The errors that this package raises."""


class MenuError(ValueError):
    """Something that was passed is wrong."""


class InvalidMenu(MenuError):
    """An argument of a menu is wrong: the one with this parameter name."""

    def __init__(self, word):
        self.word = word


class InvalidBoard(MenuError):
    """Menus are no board, for the reason that this word tells."""

    def __init__(self, word):
        self.word = word


class InvalidText(MenuError):
    """The line of a text with this number cannot stand at its place."""

    def __init__(self, at):
        self.at = at


class InvalidEvent(MenuError):
    """The event with this number cannot be done."""

    def __init__(self, at):
        self.at = at


class InvalidStack(MenuError):
    """The thing at this index of a stack is no name of a menu of the board."""

    def __init__(self, at):
        self.at = at


class InvalidGoal(MenuError):
    """There is no such goal."""


class InvalidCommand(MenuError):
    """There is no such command, or not now."""


class Refused(MenuError):
    """Of several events none was done, because of the one at this index."""

    def __init__(self, at):
        self.at = at


class NoMenu(KeyError):
    """The board has no menu with this name."""

    def __init__(self, name):
        self.name = name
