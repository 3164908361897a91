"""Calls told in another way than the package does: a called menu is a called function.

What is due is here what the functions around have still to do, so that the
tests compare two ways that have nothing in common but the document.
"""


class Over(Exception):
    """The call is over, with this end."""


class Main(Exception):
    """The main menu starts, and nothing is due any more."""


class Model:
    """A call on a menu given as a dict: name -> (rows, tail, tries, clears)."""

    def __init__(self, menus):
        self.menus = menus
        self.main = next(iter(menus))
        self.started, self.due, self.queue = [], [], []
        self.presses, self.left, self.name, self.end = 0, 0, None, None
        self.course = self.whole()
        next(self.course)

    def whole(self):
        try:
            while True:
                try:
                    yield from self.stay(self.main)
                    raise Over("out")
                except Main:
                    self.due.clear()
        except Over as over:
            self.end = over.args[0]
            self.queue.clear()
        while True:
            yield

    def stay(self, name):
        """From the start of a menu till it, or what took its place, comes home."""
        while name is not None:
            action = yield from self.serve(name)
            words = action.split(" ")
            if words[0] == "call":
                self.due.append(words[2])
                yield from self.stay(words[1])
                self.due.pop()
                name = words[2]
            elif words[0] == "go":
                name = words[1]
            elif words[0] == "back":
                name = None
            elif words[0] == "main":
                raise Main()
            elif words[0] != "again":
                raise Over(words[-1])

    def serve(self, name):
        """From the start of a menu till one of its actions happens."""
        rows, tail, tries, clears = self.menus[name]
        self.started.append(name)
        self.name = name
        if clears:
            self.queue.clear()
        for self.left in range(tries, 0, -1):
            digit = yield
            if digit in rows:
                return rows[digit]
        return tail

    def do(self, event):
        late = event.startswith("-")
        self.queue.extend(event[1:] if late else event)
        if late:
            self.course.send("nothing")
        while self.queue:
            self.presses += 1
            self.course.send(self.queue.pop(0))

    def told(self):
        over = self.end is not None
        stack = () if over else (self.name, *reversed(self.due))
        return stack, 0 if over else self.left, self.end, self.presses, tuple(self.started)
