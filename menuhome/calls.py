"""Calls: what happens to a caller on a board, event by event."""

from menuhome.errors import InvalidEvent
from menuhome.menus import are_digits, is_digit


class Played:
    """How a call stands behind its events."""

    def __init__(self, stack, tries, end, presses, started):
        self.stack = stack
        self.tries = tries
        self.end = end
        self.presses = presses
        self.started = started


def is_event(value):
    """Whether any value is an event."""
    if not isinstance(value, str):
        return False
    if value.startswith("-"):
        return value == "-" or is_digit(value[1:])
    return are_digits(value)


def stack_behind(board, stack, action):
    """The stack behind an action of its first menu; it is empty if the call is over."""
    kind, *names = action.split(" ")
    if kind in ("line", "out"):
        return ()
    if kind == "main":
        return board.names[:1]
    if kind == "again":
        return stack
    # What go and call name, and nothing for back, starts ahead of what is due already.
    return (*names, *stack[1:])


def end_by(action):
    """The end of a call that is over by an action."""
    kind, *names = action.split(" ")
    return names[0] if kind == "line" else "out"


class Call:
    """A call that goes on from where one stood, as an event changes it."""

    def __init__(self, board, played):
        self._board = board
        self.stack = played.stack
        self.tries = played.tries
        self.end = played.end
        self.presses = played.presses
        self.started = list(played.started)
        self.pending = ""

    def start(self, stack):
        """Start the first menu of a stack."""
        menu = self._board.menu(stack[0])
        self.stack = stack
        self.tries = menu.tries
        self.started.append(menu.name)
        if menu.clears:
            self.pending = ""

    def finish(self, end):
        """The call is over."""
        self.stack = ()
        self.tries = 0
        self.end = end
        self.pending = ""

    def happen(self, action):
        """Let an action of the menu that waits happen."""
        stack = stack_behind(self._board, self.stack, action)
        if len(stack) > 0:
            self.start(stack)
        else:
            self.finish(end_by(action))

    def miss(self):
        """Use up a try."""
        self.tries -= 1
        if self.tries == 0:
            self.happen(self._board.menu(self.stack[0]).tail)

    def press(self, digit):
        """Press a digit."""
        self.presses += 1
        action = self._board.menu(self.stack[0]).action(digit)
        if action is None:
            self.miss()
        else:
            self.happen(action)

    def do(self, event):
        """Do an event, with all that follows from the digits in it."""
        self.pending = event.removeprefix("-")
        if event.startswith("-"):
            self.miss()
        while len(self.pending) > 0:
            digit = self.pending[0]
            # The digit leaves ahead of its action, which may drop all that are pending then.
            self.pending = self.pending[1:]
            self.press(digit)


def beginning(board):
    """How a call stands at its beginning."""
    main = board.menus[0]
    return Played((main.name,), main.tries, None, 0, (main.name,))


def behind(board, played, event):
    """How a call that stood so stands behind one more event."""
    call = Call(board, played)
    call.do(event)
    return Played(call.stack, call.tries, call.end, call.presses, tuple(call.started))


def go_on(board, played, events, many):
    """How a call stands ahead of these events and behind each of them, when it stood so behind that many others."""
    if not isinstance(events, (list, tuple)):
        raise InvalidEvent(many)
    found = [played]
    for at, event in enumerate(events):
        if found[-1].end is not None or not is_event(event):
            raise InvalidEvent(many + at)
        found.append(behind(board, found[-1], event))
    return found


def play(board, events):
    """How a call stands behind these events, from its beginning."""
    return go_on(board, beginning(board), events, 0)[-1]
