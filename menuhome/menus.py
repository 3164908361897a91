"""Menus: which digits a caller can press, and what happens then."""

from menuhome.errors import InvalidMenu, InvalidText

LETTERS = "abcdefghijklmnopqrstuvwxyz"
DIGITS = "0123456789"
NO_NAMES = ("line", "out", "main", "back", "go", "call", "menu", "else", "none")
# How many names stand behind the first word of each action.
NAMES_BEHIND = {"line": 1, "out": 0, "again": 0, "main": 0, "go": 1, "call": 2, "back": 0}


def is_name(value):
    """Whether any value is a name, of a menu or of a line."""
    if not isinstance(value, str) or value in NO_NAMES:
        return False
    return 1 <= len(value) <= 4 and all([sign in LETTERS for sign in value])


def are_digits(text):
    """Whether a string is made of digits, and at least of one."""
    return len(text) > 0 and all([sign in DIGITS for sign in text])


def is_digit(value):
    """Whether any value is a digit."""
    return isinstance(value, str) and len(value) == 1 and value in DIGITS


def is_action(value):
    """Whether any value is an action."""
    if not isinstance(value, str):
        return False
    kind, *names = value.split(" ")
    return NAMES_BEHIND.get(kind) == len(names) and all([is_name(name) for name in names])


def is_row(value):
    """Whether any value is a pair of a digit and an action."""
    return isinstance(value, tuple) and len(value) == 2 and is_digit(value[0]) and is_action(value[1])


def are_rows(value):
    """Whether any value is a sequence of rows with unlike digits."""
    if not isinstance(value, (list, tuple)) or not all([is_row(row) for row in value]):
        return False
    return len({row[0] for row in value}) == len(value)


def are_tries(value):
    """Whether any value is an integer from 1 on."""
    return isinstance(value, int) and not isinstance(value, bool) and value >= 1


def wrong_argument(name, rows, tail, tries, clears):
    """The parameter name of the first argument of a menu that is wrong, or None."""
    checked = (
        ("name", is_name(name)),
        ("rows", are_rows(rows)),
        ("tail", is_action(tail)),
        ("tries", are_tries(tries)),
        ("clears", isinstance(clears, bool)),
    )
    for word, right in checked:
        if not right:
            return word
    return None


def named_menus(action):
    """The names of the menus in an action."""
    kind, *names = action.split(" ")
    return () if kind == "line" else tuple(names)


def named_lines(action):
    """The names of the lines in an action: one, or none."""
    kind, *names = action.split(" ")
    return tuple(names) if kind == "line" else ()


def actions_of(menu):
    """The actions of a menu: those of its rows, and the tail."""
    return [action for digit, action in menu.rows] + [menu.tail]


def head_line(menu):
    """The first line of the text of a menu."""
    mark = " clear" if menu.clears else ""
    return f"menu {menu.name} tries {menu.tries}{mark}"


def is_count(word):
    """Whether a word of a text is a number of tries as texts write it."""
    # A lone 0 is written rightly; that no menu has 0 tries is for the menu to say.
    return are_digits(word) and len(word) <= 2 and (word == "0" or word[0] != "0")


def read_head(line):
    """The name, the tries and whether the menu clears, as a first line tells them, or None."""
    plain = line.removesuffix(" clear")
    words = plain.split(" ")
    if len(words) != 4 or words[0] != "menu" or words[2] != "tries":
        return None
    if not is_name(words[1]) or not is_count(words[3]):
        return None
    return words[1], int(words[3]), plain != line


def read_part(lines, start):
    """The arguments of the menu whose text starts at a line, and the number of the line behind its else."""
    head = read_head(lines[start])
    if head is None:
        raise InvalidText(start)
    name, tries, clears = head
    rows = []
    for at in range(start + 1, len(lines)):
        word, _, action = lines[at].partition(" ")
        if word == "else" and is_action(action):
            return (name, rows, action, tries, clears), at + 1
        rows = [*rows, (word, action)]
        if not are_rows(rows):
            raise InvalidText(at)
    raise InvalidText(len(lines))


class Menu:
    """A menu, which speaks and waits for a digit."""

    def __init__(self, name, rows, tail, tries=1, clears=False):
        word = wrong_argument(name, rows, tail, tries, clears)
        if word is not None:
            raise InvalidMenu(word)
        self.name = name
        self.rows = tuple(sorted(rows))
        self.tail = tail
        self.tries = tries
        self.clears = clears

    @classmethod
    def read(cls, text):
        """The menu with a text."""
        lines = text.split("\n")
        part, behind = read_part(lines, 0)
        if behind < len(lines):
            raise InvalidText(behind)
        name, rows, tail, tries, clears = part
        return cls(name, rows, tail, tries, clears)

    def action(self, digit):
        """The action of the row with a digit, or None."""
        for known, action in self.rows:
            if known == digit:
                return action
        return None

    def __eq__(self, other):
        return (
            isinstance(other, Menu)
            and self.name == other.name
            and self.rows == other.rows
            and self.tail == other.tail
            and self.tries == other.tries
            and self.clears == other.clears
        )

    def __str__(self):
        rows = [f"{digit} {action}" for digit, action in self.rows]
        return "\n".join([head_line(self), *rows, f"else {self.tail}"])
