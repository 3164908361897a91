"""All calls on a board, gone through step by step: a second way to what the package decides.

A state of a call is a pair of its stack and the tries left, or a string if the
call is over. Nothing is summed up by menus here, so stacks may grow without a
bound; they are followed as far as `deepest` menus, and `cut` tells whether one
of them would have grown further.
"""

import collections

HOME = "came home"
OUT = "thrown out"


class Walk:
    def __init__(self, board, deepest):
        self.menus = {menu.name: (dict(menu.rows), menu.tail, menu.tries, menu.clears) for menu in board.menus}
        self.main = board.names[0]
        self.lines = {"line " + line for line in board.lines}
        self.deepest = deepest
        self.cut = False
        self.follow = {}

    def start(self, stack):
        if not stack:
            return HOME
        if len(stack) > self.deepest:
            self.cut = True
            return None
        return tuple(stack), self.menus[stack[0]][2]

    def happen(self, stack, action):
        match action.split(" "):
            case ["line", _]:
                return action
            case ["out"]:
                return OUT
            case ["again"]:
                return self.start(stack)
            case ["main"]:
                return self.start([self.main])
            case ["go", name]:
                return self.start([name, *stack[1:]])
            case ["call", name, due]:
                return self.start([name, due, *stack[1:]])
            case ["back"]:
                return self.start(stack[1:])

    def action(self, state, sign):
        """The action that a digit, or silence, brings about at once, or None."""
        (name, *_), tries = state
        rows, tail, _, _ = self.menus[name]
        if sign in rows:
            return rows[sign]
        return tail if tries == 1 else None

    def press(self, state, sign):
        stack, tries = state
        action = self.action(state, sign)
        return (stack, tries - 1) if action is None else self.happen(stack, action)

    def signs(self, state):
        """All rows of the menu that waits, one wrong digit, and silence."""
        rows = self.menus[state[0][0]][0]
        wrong = [digit for digit in "0123456789" if digit not in rows]
        return [*rows, *wrong[:1], "-"]

    def search(self, state, ends, free, allowed):
        """The fewest presses from a state to one of these ends, or None."""
        done = set()
        queue = collections.deque([(0, state)])
        while queue:
            cost, state = queue.popleft()
            if state in ends:
                return cost
            if state is None or isinstance(state, str) or state in done:
                continue
            done.add(state)
            for sign in self.signs(state):
                if not allowed(state, sign):
                    continue
                if sign in free:
                    queue.appendleft((cost, self.press(state, sign)))
                else:
                    queue.append((cost + 1, self.press(state, sign)))
        return None

    def fewest(self, stack, goal):
        if goal == "back":
            return self.search(self.start(stack), {HOME}, "-", lambda *at: self.action(*at) != "main")
        return self.search(self.start(stack), {"line " + goal}, "-", lambda *at: True)

    def by_heart(self, goal):
        """The length of a shortest event of digits that comes to a line from the beginning, or None."""
        ends = {"line " + goal}

        def goes_on(state, sign):
            behind = self.press(state, sign)
            return sign != "-" and not self.drops(behind)

        return self.search(self.start([self.main]), ends, "", goes_on)

    def drops(self, state):
        """Whether pending digits are dropped on the way into a state: by a start, where no try is used up yet."""
        if not isinstance(state, tuple):
            return False
        _, _, tries, clears = self.menus[state[0][0]]
        return clears and state[1] == tries

    def states(self):
        """All states to which calls come, each with those that follow it."""
        todo = [] if self.follow else [self.start([self.main])]
        while todo:
            state = todo.pop()
            if isinstance(state, tuple) and state not in self.follow:
                self.follow[state] = [self.press(state, sign) for sign in self.signs(state)]
                todo.extend(self.follow[state])
        return self.follow

    def starts(self):
        """The stacks with which a menu starts."""
        return [stack for stack, tries in self.states() if tries == self.menus[stack[0]][2]]

    def never(self):
        ends = {end for follow in self.states().values() for end in follow if isinstance(end, str)}
        return tuple(sorted(end.split(" ")[1] for end in self.lines - ends))

    def comes(self):
        return tuple(sorted({stack[0] for stack in self.starts()}))

    def beneath(self, name):
        return tuple(sorted({(*stack, "")[1] for stack in self.starts() if stack[0] == name}))

    def caught(self, deepest):
        """The menus of the starts, with at most so many menus in the stack, from which no line is come to."""
        ahead = collections.defaultdict(list)
        for state, behind in self.states().items():
            for other in behind:
                ahead[other].append(state)
        lively = set()
        todo = list(self.lines)
        while todo:
            state = todo.pop()
            if state not in lively:
                lively.add(state)
                todo.extend(ahead[state])
        starts = [self.start(stack) for stack in self.starts() if len(stack) <= deepest]
        return tuple(sorted({state[0][0] for state in starts if state not in lively}))

    def silence(self, stack):
        """What silence meets, found by waiting: a stack that grows this long never ends."""
        state = self.start(stack)
        met = set()
        while isinstance(state, tuple) and state not in met:
            met.add(state)
            state = self.press(state, "-")
        if state is None or isinstance(state, tuple):
            return "round"
        return "out" if state in (HOME, OUT) else state.split(" ")[1]

    def astray(self):
        found = set()
        for state in self.states():
            (name, *_), tries = state
            behind = self.press(state, "-")
            if tries > 1 or not isinstance(behind, tuple) or self.drops(behind):
                continue
            other = behind[0][0]
            rows = self.menus[other][0]
            found.update((name, digit, other) for digit in self.menus[name][0] if digit in rows and other != name)
        return tuple(sorted(found))
