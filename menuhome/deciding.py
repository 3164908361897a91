"""Deciding: what holds of a board for all callers, and for silent ones."""

from menuhome.errors import InvalidStack
from menuhome.menus import actions_of
from menuhome.reckoning import check_line, planned, reckon, total


def check_stack(board, stack):
    """Raise InvalidStack for any value that is no stack of the board."""
    if not isinstance(stack, (list, tuple)) or len(stack) == 0:
        raise InvalidStack(0)
    for at, name in enumerate(stack):
        if name not in board.names:
            raise InvalidStack(at)


def fewest_home(board, stack):
    """The fewest presses till all menus of a stack have come home, or None."""
    costs, _ = reckon(board, ())
    return total(costs, [(name, "home") for name in stack])


def fewest_to(board, stack, line):
    """The fewest presses with which a stack comes to a line, or None."""
    costs, _ = reckon(board, (line,))
    found = []
    ahead = 0
    for name in stack:
        if (name, "to") in costs:
            found.append(ahead + costs[name, "to"])
        if (name, "home") not in costs:
            break
        ahead += costs[name, "home"]
    return min(found, default=None)


def fewest(board, stack, goal):
    """The fewest presses with which a call that stands so comes to a goal, or None."""
    check_stack(board, stack)
    if goal == "back":
        return fewest_home(board, stack)
    check_line(board, goal)
    return fewest_to(board, stack, goal)


def way(board, goal):
    """Events with the fewest presses by which a call comes to a line, or None."""
    check_line(board, goal)
    _, plans = reckon(board, (goal,))
    return planned(plans, (board.names[0], "to"))


def never(board):
    """The lines to which no call comes."""
    return tuple([line for line in board.lines if fewest_to(board, board.names[:1], line) is None])


def has_hope(costs, name, hope):
    """Whether some line can be come to when this menu starts, with or without hope for what is due beneath it."""
    return (name, "to") in costs or ((name, "home") in costs and hope)


def is_hopeful(costs, stack):
    """Whether a call that stands so can come to some line; with an empty stack it is over."""
    hope = False
    for name in reversed(stack):
        hope = has_hope(costs, name, hope)
    return hope


def starts_by(costs, start, action):
    """The starts by an action of the menu of a start, also the one when what it calls comes home."""
    kind, *names = action.split(" ")
    _, due, hope = start
    if kind == "go":
        return [(names[0], due, hope)]
    if kind == "call":
        called, then = names
        found = [(called, then, has_hope(costs, then, hope))]
        return found + [(then, due, hope)] if (called, "home") in costs else found
    # By main and again nothing new starts; what starts by back is told by the call that made it due.
    return []


def all_starts(board, costs):
    """All starts of menus in calls, with costs to any line.

    A start is a triple: the menu's name, that of the menu that is due first
    beneath it, or "", and whether what is due can come to some line. That is
    enough, for nothing of this changes till the menu comes home.
    """
    found = []
    todo = [(board.names[0], "", False)]
    while len(todo) > 0:
        start = todo.pop()
        if start in found:
            continue
        found.append(start)
        for action in actions_of(board.menu(start[0])):
            todo.extend(starts_by(costs, start, action))
    return found


def comes(board):
    """The names of the menus that start in some call."""
    costs, _ = reckon(board, board.lines)
    return tuple(sorted({name for name, due, hope in all_starts(board, costs)}))


def caught(board):
    """The names of the menus that are caught in some call."""
    costs, _ = reckon(board, board.lines)
    return tuple(sorted({name for name, due, hope in all_starts(board, costs) if not has_hope(costs, name, hope)}))


def beneath(board, name):
    """The names of the menus that are due first when this menu starts, with "" for nothing."""
    # Only to refuse any value that is no name of a menu.
    board.menu(name)
    costs, _ = reckon(board, board.lines)
    return tuple(sorted({due for started, due, hope in all_starts(board, costs) if started == name}))


def silent_end(board, ends, action):
    """What silence meets behind an action: an end, "back", or None while that is not known."""
    kind, *names = action.split(" ")
    if kind == "line":
        return names[0]
    if kind in ("out", "back"):
        return kind
    if kind == "main":
        end = ends.get(board.names[0])
        # Nothing is due beneath the main menu then.
        return "out" if end == "back" else end
    if kind == "go":
        return ends.get(names[0])
    if kind == "call":
        end = ends.get(names[0])
        return ends.get(names[1]) if end == "back" else end
    return None


def silent_ends(board):
    """What silence meets from each menu till it comes home; menus that go round for ever are left out."""
    ends = {}
    # Each round tells of one more menu at least, as long as there is more to tell.
    for _ in board.names:
        for menu in board.menus:
            end = silent_end(board, ends, menu.tail)
            if end is not None:
                ends[menu.name] = end
    return ends


def silence(board, stack):
    """What a caller meets who presses nothing any more: a line's name, "out", or "round"."""
    check_stack(board, stack)
    ends = silent_ends(board)
    for name in stack:
        end = ends.get(name, "round")
        if end != "back":
            return end
    return "out"
