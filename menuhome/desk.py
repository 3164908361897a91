"""Desks: live calls by commands in words, which are answered in words."""

from menuhome.boards import Board
from menuhome.deciding import caught, fewest_to, silence
from menuhome.errors import InvalidCommand
from menuhome.live import Live
from menuhome.reckoning import check_line

# How many words stand behind the first one of each command; behind that of a board there may be more.
WORDS_BEHIND = {"board": 1, "do": 1, "presses": 0, "fewest": 1, "silence": 0, "caught": 0, "undo": 0}


def is_command(value):
    """Whether any value has the form of a command."""
    if not isinstance(value, str) or "\n" in value:
        return False
    first, *rest = value.split(" ")
    if first not in WORDS_BEHIND or "" in rest:
        return False
    return len(rest) == WORDS_BEHIND[first] or (first == "board" and len(rest) > 1)


def told_presses(presses):
    """A number of presses in words; None is never."""
    return "never" if presses is None else str(presses)


def told_stack(played):
    """Where a call stands: its stack, or its end."""
    return " ".join(played.stack) if played.end is None else played.end


def told_fewest(board, line):
    """The fewest presses from the beginning of a call to a line."""
    check_line(board, line)
    return told_presses(fewest_to(board, board.names[:1], line))


def told_silence(board, played):
    """What a silent caller meets in a call that stands so."""
    return silence(board, played.stack) if played.end is None else played.end


def told_names(names):
    """Names, or that there are none."""
    return " ".join(names) if len(names) > 0 else "none"


def do_event(live, event):
    """Do an event in a live call, and tell where it stands then."""
    live.do(event)
    return told_stack(live.played)


def answer(live, first, word):
    """The answer of a live call to a command with this first word, and a word behind it or none."""
    if first == "do":
        return do_event(live, word)
    if first == "presses":
        return told_presses(live.played.presses)
    if first == "fewest":
        return told_fewest(live.board, word)
    if first == "silence":
        return told_silence(live.board, live.played)
    if first == "caught":
        return told_names(caught(live.board))
    return "undone" if live.undo() else "nothing"


class Desk:
    """A desk that does commands."""

    def __init__(self):
        self.live = None

    def begin(self, text):
        """Begin a new live call of the board with a text, and tell how many menus it has."""
        board = Board.read(text.replace(" ; ", "\n"))
        self.live = Live(board)
        return str(len(board))

    def say(self, command):
        """Do a command, and return its answer."""
        if not is_command(command):
            raise InvalidCommand()
        first, _, rest = command.partition(" ")
        if first == "board":
            return self.begin(rest)
        if self.live is None:
            raise InvalidCommand()
        return answer(self.live, first, rest)
