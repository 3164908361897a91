"""Live calls: calls that go on, and back."""

from menuhome.calls import beginning, go_on
from menuhome.deciding import is_hopeful
from menuhome.errors import InvalidEvent, Refused
from menuhome.reckoning import reckon


class Live:
    """A call that goes on."""

    def __init__(self, board):
        self._board = board
        self._costs, _ = reckon(board, board.lines)
        self._events = ()
        self._played = beginning(board)
        # How the call stood ahead of all that can be taken back: pairs of its events, and of what was played.
        self._back = ()

    @property
    def board(self):
        """The board of the call."""
        return self._board

    @property
    def events(self):
        """The events that were done so far."""
        return self._events

    @property
    def played(self):
        """How the call stands."""
        return self._played

    @property
    def alive(self):
        """Whether some line can still be come to."""
        return is_hopeful(self._costs, self._played.stack)

    def go(self, events):
        """Do events, to be taken back at once, and return the stack behind each."""
        found = go_on(self._board, self._played, events, len(self._events))
        # What was wrong has been raised by now, so from here on all changes.
        self._back = (*self._back, (self._events, self._played))
        self._events = (*self._events, *events)
        self._played = found[-1]
        return tuple([state.stack for state in found[1:]])

    def do(self, event):
        """Do an event, and return the stack behind it."""
        return self.go((event,))[0]

    def several(self, events):
        """Do all of these events, or none, and return the stack behind each."""
        try:
            return self.go(events)
        except InvalidEvent as error:
            raise Refused(error.at - len(self._events)) from error

    def undo(self):
        """Take back what was done last, and return whether there was something."""
        if len(self._back) == 0:
            return False
        self._events, self._played = self._back[-1]
        self._back = self._back[:-1]
        return True

    def within(self, work):
        """Let work be done with this call, return what it returns, and leave all as it was."""
        events = self._events
        played = self._played
        back = self._back
        try:
            return work(self)
        finally:
            self._events = events
            self._played = played
            self._back = back

    def __len__(self):
        return len(self._back)
