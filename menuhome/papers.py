"""Papers: numbers that show how many presses each call to a line needs, for anybody to check."""

from menuhome.reckoning import AIMS, check_line, free_moves, option_cost, options, reckon


def paper(board, goal):
    """A right paper for a line, in which the main menu's number is the fewest presses to it."""
    check_line(board, goal)
    costs, _ = reckon(board, (goal,))
    return tuple([(name, costs.get((name, "to")), costs.get((name, "home"))) for name in board.names])


def is_told(value):
    """Whether any value is a number, or None for never."""
    return value is None or (isinstance(value, int) and not isinstance(value, bool) and value >= 0)


def is_entry(value):
    """Whether any value is an entry of a paper, for a menu of any name."""
    if not isinstance(value, tuple) or len(value) != 3:
        return False
    name, to, home = value
    return isinstance(name, str) and is_told(to) and is_told(home)


def is_paper(board, value):
    """Whether any value is a paper, right or not."""
    if not isinstance(value, tuple) or not all([is_entry(entry) for entry in value]):
        return False
    return sorted([name for name, to, home in value]) == sorted(board.names)


def costs_told(value):
    """The numbers of a paper; those that it tells as never are left out."""
    told = {}
    for name, to, home in value:
        for aim, number in zip(AIMS, (to, home)):
            if number is not None:
                told[name, aim] = number
    return told


def is_at_most(number, bound):
    """Whether a number is not above a bound; None is never, which is above each number."""
    return bound is None or (number is not None and number <= bound)


def is_right(board, told, lines):
    """Whether no number that is told is above what an action tells."""
    for menu in board.menus:
        for aim in AIMS:
            number = told.get((menu.name, aim))
            bounds = [option_cost(told, option) for option in options(board, free_moves(menu), aim, lines)]
            if not all([is_at_most(number, bound) for bound in bounds]):
                return False
    return True


def paper_holds(board, goal, least, value):
    """Whether any value is a right paper for a line that shows that each call needs at least so many presses."""
    check_line(board, goal)
    if not is_paper(board, value):
        return False
    told = costs_told(value)
    return is_at_most(least, told.get((board.names[0], "to"))) and is_right(board, told, (goal,))
