"""Reckoning: how a menu comes to a line, or home, whatever is due beneath it.

A part is a pair of a menu's name and an aim: this menu starts, and comes to a
line ("to"), or home ("home"). A course is a tuple of parts, one done behind
another. A move is a pair of events and the action that they bring about in a
menu that starts; an option is a pair of such events and a course behind them.
"""

from menuhome.errors import InvalidGoal

AIMS = ("to", "home")


def check_line(board, goal):
    """Raise InvalidGoal for any value that is no line of the board."""
    if goal not in board.lines:
        raise InvalidGoal()


def row_moves(menu):
    """The moves by the rows of a menu."""
    return [((digit,), action) for digit, action in menu.rows]


def tail_move(menu, event):
    """The move by an event that is no row's, again and again."""
    return (event,) * menu.tries, menu.tail


def free_moves(menu):
    """The moves of a caller who may press anything, or nothing."""
    return [*row_moves(menu), tail_move(menu, "-")]


def presses_in(events):
    """How many digits are pressed in events of one digit or none."""
    return len([event for event in events if event != "-"])


def courses_to(board, action, lines):
    """The courses by which an action leads to one of these lines."""
    kind, *names = action.split(" ")
    if kind == "line":
        return [()] if names[0] in lines else []
    if kind == "main":
        return [((board.names[0], "to"),)]
    if kind == "go":
        return [((names[0], "to"),)]
    if kind == "call":
        called, due = names
        return [((called, "to"),), ((called, "home"), (due, "to"))]
    # That is right for "again", too: nothing gets cheaper by it, and no number is above itself.
    return []


def courses_home(action):
    """The courses by which an action leads home."""
    kind, *names = action.split(" ")
    if kind == "back":
        return [()]
    if kind in ("go", "call"):
        return [tuple([(name, "home") for name in names])]
    return []


def courses(board, action, aim, lines):
    """The courses by which an action leads to an aim."""
    return courses_home(action) if aim == "home" else courses_to(board, action, lines)


def total(costs, course):
    """The presses of a course, or None if one of its parts never comes to its aim."""
    if not all([part in costs for part in course]):
        return None
    return sum([costs[part] for part in course])


def options(board, moves, aim, lines):
    """All options that lead to an aim by one of these moves."""
    return [(events, course) for events, action in moves for course in courses(board, action, aim, lines)]


def option_cost(costs, option):
    """The presses of an option, or None if it never leads to the aim."""
    events, course = option
    behind = total(costs, course)
    return None if behind is None else presses_in(events) + behind


def plan_better(choices, costs, plans):
    """Plan each option that is cheaper than what was planned, and return whether there was one."""
    better = False
    for part in choices:
        for option in choices[part]:
            cost = option_cost(costs, option)
            # What is only as cheap is not planned: so no plan ever leads back to itself.
            if cost is not None and (part not in costs or cost < costs[part]):
                costs[part] = cost
                plans[part] = option
                better = True
    return better


def cheapest(board, table, lines):
    """The fewest presses of each part, and its option for these; parts that never come to their aim are left out.

    The table has the moves for each name that a part may have.
    """
    choices = {(name, aim): options(board, table[name], aim, lines) for name in table for aim in AIMS}
    costs = {}
    plans = {}
    while plan_better(choices, costs, plans):
        pass
    return costs, plans


def reckon(board, lines):
    """The costs and plans of a caller who may press anything, or nothing."""
    return cheapest(board, {menu.name: free_moves(menu) for menu in board.menus}, lines)


def planned(plans, part):
    """The events by which a part comes to its aim as planned, or None if it never does."""
    if part not in plans:
        return None
    events = []
    todo = (part,)
    while len(todo) > 0:
        first, course = plans[todo[0]]
        events.extend(first)
        todo = course + todo[1:]
    return tuple(events)
