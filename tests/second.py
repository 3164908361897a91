"""Second ways to what is mended and compared ([17], [18]): by texts, walks, and all heaps that there could be."""

from menuhome.boards import Board
from walk import Walk

DIGITS = "0123456789"


def text_with(shown, name, digit, action):
    """The text of a board with one more row, put in ahead of all others of its menu."""
    head = f"menu {name} "
    lines = str(shown).split("\n")
    at = [line.startswith(head) for line in lines].index(True)
    return "\n".join([*lines[:at + 1], f"{digit} {action}", *lines[at + 1:]])


def text_without(shown, name, digit):
    """The text of a board without a row."""
    kept, menu = [], None
    for line in str(shown).split("\n"):
        if line.startswith("menu "):
            menu = line.split(" ")[1]
        if (menu, line[0]) != (name, digit):
            kept.append(line)
    return "\n".join(kept)


def rows_of(shown):
    return [(menu.name, digit) for menu in shown.menus for digit, _ in menu.rows]


def free_digits(menu):
    taken = {digit for digit, _ in menu.rows}
    return [digit for digit in DIGITS if digit not in taken]


def is_free_of_caught(text, deepest, margin):
    walk = Walk(Board.read(text), deepest)
    walk.states()
    return walk.caught(deepest - margin if walk.cut else deepest) == ()


def second_mends(shown, deepest, margin):
    found = set()
    for menu in shown.menus:
        free = free_digits(menu)
        for word in ("back", "main"):
            # Walks take their time; the first and the last digit speak for those between them.
            told = [is_free_of_caught(text_with(shown, menu.name, digit, word), deepest, margin)
                    for digit in {free[0], free[-1]}]
            assert len(set(told)) == 1
            if told[0]:
                found.update((menu.name, digit, word) for digit in free)
    return tuple(sorted(found))


def second_needless(shown, deepest):
    def presses(told):
        walk = Walk(told, deepest)
        return [walk.fewest([walk.main], line) for line in shown.lines]

    whole = presses(shown)
    return tuple(sorted(row for row in rows_of(shown) if presses(Board.read(text_without(shown, *row))) == whole))


def partitions(names):
    """All ways to part names into heaps."""
    if not names:
        yield []
        return
    for heaps in partitions(names[1:]):
        yield [[names[0]], *heaps]
        for at, heap in enumerate(heaps):
            yield [*heaps[:at], [names[0], *heap], *heaps[at + 1:]]


def form(menu, number):
    """All of a menu but its name, with the numbers of heaps in the place of menus."""
    def told(action):
        kind, *names = action.split(" ")
        return (kind, *names) if kind == "line" else (kind, *[number[name] for name in names])

    return menu.tries, menu.clears, [(digit, told(action)) for digit, action in menu.rows], told(menu.tail)


def holds(shown, heaps):
    """Whether all that [18] asks of heaps holds for these."""
    number = {name: at for at, heap in enumerate(heaps) for name in heap}
    forms = [[form(shown.menu(name), number) for name in heap] for heap in heaps]
    return all(told == row[0] for row in forms for told in row)


def second_heaps(shown):
    """The coarsest of all heaps for which it holds; each other heaps lie within these."""
    found = [heaps for heaps in partitions(list(shown.names)) if holds(shown, heaps)]
    coarsest = min(found, key=len)
    for heaps in found:
        assert all(any(set(heap) <= set(whole) for whole in coarsest) for heap in heaps)
    place = shown.names.index
    return tuple(sorted((tuple(sorted(heap, key=place)) for heap in coarsest), key=lambda heap: place(heap[0])))


def second_merged(shown):
    """The text of the merged board, made of the text of the board."""
    firsts = {name: heap[0] for heap in second_heaps(shown) for name in heap}
    kept, menu = [], None
    for line in str(shown).split("\n"):
        first, *words = line.split(" ")
        if first == "menu":
            menu = words[0]
        elif words[0] in ("go", "call"):
            words[1:] = [firsts[name] for name in words[1:]]
        if firsts[menu] == menu:
            kept.append(" ".join([first, *words]))
    return "\n".join(kept)
