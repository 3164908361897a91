"""Papers, and who checks them: [16]."""

import random
import unittest

from chances import some_board
from menuhome.boards import Board
from menuhome.deciding import fewest
from menuhome.errors import InvalidGoal
from menuhome.papers import paper, paper_holds
from samples import any_values, board, nested, read


def plainly_right(shown, line, entries):
    """Whether numbers are right, said once more: with never as a very great number."""
    never = 10 ** 9
    to = {name: never if number is None else number for name, number, _ in entries}
    home = {name: never if number is None else number for name, _, number in entries}

    def tells(menu, words):
        if words[0] == "line":
            return (0 if words[1] == line else never), never
        if words[0] == "back":
            return never, 0
        if words[0] == "again":
            return to[menu.name], home[menu.name]
        if words[0] == "go":
            return to[words[1]], home[words[1]]
        if words[0] == "main":
            return to[shown.names[0]], never
        if words[0] == "call":
            behind = home[words[1]] + to[words[2]], home[words[1]] + home[words[2]]
            return min(to[words[1]], behind[0]), behind[1]
        return never, never

    for menu in shown.menus:
        for cost, action in [(1, action) for _, action in menu.rows] + [(0, menu.tail)]:
            bounds = [cost + bound for bound in tells(menu, action.split(" "))]
            for number, bound in zip((to[menu.name], home[menu.name]), bounds):
                if number > (bound if bound < never else never):
                    return False
    return True


class PapersCase(unittest.TestCase):
    def holds(self, shown, line, least, value):
        told = paper_holds(shown, line, least, value)
        self.assertIs(type(told), bool)
        return told


class Paper(PapersCase):
    def test_the_board_of_the_document(self):
        told = {
            "cash": {("top", 2, 2), ("pay", 1, 0), ("ask", None, None), ("bye", None, 1)},
            "desk": {("top", 1, 2), ("pay", None, 0), ("ask", None, None), ("bye", None, 1)},
        }
        for line, entries in told.items():
            shown = paper(board(), line)
            self.assertIs(type(shown), tuple)
            self.assertEqual([type(entry) for entry in shown], [tuple] * 4)
            self.assertTrue(plainly_right(board(), line, entries))
            self.assertTrue(plainly_right(board(), line, shown))
            self.assertTrue(self.holds(board(), line, fewest(board(), ["top"], line), tuple(entries)))

    def assert_paper(self, shown, line):
        told = paper(shown, line)
        least = fewest(shown, shown.names[:1], line)
        self.assertEqual(sorted(name for name, _, _ in told), sorted(shown.names))
        self.assertEqual([to for name, to, _ in told if name == shown.names[0]], [least])
        self.assertTrue(plainly_right(shown, line, told))
        self.assertTrue(self.holds(shown, line, least, told))
        if least is None:
            self.assertTrue(self.holds(shown, line, 10 ** 9, told))
            self.assertTrue(self.holds(shown, line, 0, told))
        else:
            self.assertFalse(self.holds(shown, line, least + 1, told))
            self.assertFalse(self.holds(shown, line, None, told))
            for less in range(least):
                self.assertTrue(self.holds(shown, line, less, told))

    def test_every_line(self):
        chance = random.Random(41)
        for _ in range(200):
            shown = some_board(chance, chance.randint(1, 6), 5)
            for line in shown.lines:
                self.assert_paper(shown, line)

    def test_a_line_that_no_call_comes_to(self):
        shown = read("menu a tries 1\n1 call a b\nelse again", "menu b tries 1\n1 line x\nelse back")
        self.assert_paper(shown, "x")
        self.assertTrue(self.holds(shown, "x", None, (("a", None, None), ("b", 1, 0))))
        self.assertFalse(self.holds(shown, "x", None, (("a", 7, None), ("b", 1, 0))))
        self.assertTrue(self.holds(shown, "x", 7, (("a", 7, None), ("b", 1, 0))))
        self.assertFalse(self.holds(shown, "x", 8, (("a", 7, None), ("b", 1, 0))))

    def test_wrong_goals(self):
        for value in any_values() + ["back", "top", "out", "line cash", "cash ", "Cash"]:
            with self.assertRaises(InvalidGoal):
                paper(board(), value)
            for told in (paper(board(), "cash"), (), None, 7, [[]], "paper"):
                with self.assertRaises(InvalidGoal):
                    paper_holds(board(), value, 2, told)


class Holding(PapersCase):
    TOLD = (("top", 2, 2), ("pay", 1, 0), ("ask", None, None), ("bye", None, 1))

    def with_entry(self, at, entry):
        return (*self.TOLD[:at], entry, *self.TOLD[at + 1:])

    def test_least(self):
        told = {least: self.holds(board(), "cash", least, self.TOLD) for least in (0, 1, 2, 3, 10 ** 9, None)}
        self.assertEqual(told, {0: True, 1: True, 2: True, 3: False, 10 ** 9: False, None: False})

    def test_numbers_that_are_greater(self):
        for at, (name, to, home) in enumerate(self.TOLD):
            if to is not None:
                for greater in (to + 1, to + 2, 10 ** 9, None):
                    self.assertFalse(self.holds(board(), "cash", 0, self.with_entry(at, (name, greater, home))), name)
            if home is not None:
                for greater in (home + 1, 10 ** 9, None):
                    self.assertFalse(self.holds(board(), "cash", 0, self.with_entry(at, (name, to, greater))), name)

    def test_numbers_that_are_less(self):
        for at, entry, least, holds in [
            (0, ("top", 1, 2), 1, True), (0, ("top", 1, 2), 2, False), (0, ("top", 0, 0), 0, True),
            (0, ("top", 2, 0), 2, True), (1, ("pay", 0, 0), 2, False), (2, ("ask", 0, 0), 2, False),
            (2, ("ask", 1, 1), 2, True), (2, ("ask", 5, None), 2, True), (2, ("ask", None, 5), 2, True),
            (3, ("bye", None, 0), 2, False), (3, ("bye", 5, 1), 2, True), (3, ("bye", 1, 1), 2, True),
            (3, ("bye", 0, 1), 2, False),
        ]:
            self.assertEqual(self.holds(board(), "cash", least, self.with_entry(at, entry)), holds, (least, entry))
        nothing = tuple((name, 0, 0) for name in board().names)
        self.assertTrue(self.holds(board(), "cash", 0, nothing))
        self.assertTrue(self.holds(board(), "desk", 0, nothing))
        self.assertFalse(self.holds(board(), "desk", 1, nothing))

    def test_orders(self):
        self.assertTrue(self.holds(board(), "cash", 2, self.TOLD[::-1]))
        self.assertTrue(self.holds(board(), "cash", 2, tuple(sorted(self.TOLD, key=str))))
        self.assertFalse(self.holds(board(), "cash", 3, self.TOLD[::-1]))

    def test_entries_left_out_or_twice(self):
        for at in range(4):
            self.assertFalse(self.holds(board(), "cash", 0, self.TOLD[:at] + self.TOLD[at + 1:]))
            self.assertFalse(self.holds(board(), "cash", 0, self.TOLD + self.TOLD[at:at + 1]))
            self.assertFalse(self.holds(board(), "cash", 0, self.with_entry(at, self.TOLD[at - 1])))
        self.assertFalse(self.holds(board(), "cash", 0, self.TOLD * 2))
        self.assertFalse(self.holds(board(), "cash", 0, self.TOLD + (("tops", 0, 0),)))
        self.assertFalse(self.holds(board(), "cash", 0, ()))
        self.assertFalse(self.holds(board(), "cash", None, ()))

    def test_names_that_are_none(self):
        for value in any_values() + ["cash", "Top", "top ", ["top"], ("top",), b"top"]:
            for at in range(4):
                self.assertFalse(self.holds(board(), "cash", 0, self.with_entry(at, (value, 0, 0))))

    def test_numbers_that_are_none(self):
        for value in any_values() + ["0", "2", 2.0, 1j, (2,), [2], -1, -(10 ** 9), True, False]:
            if value is None or (isinstance(value, int) and not isinstance(value, bool) and value >= 0):
                continue
            for at, (name, to, home) in enumerate(self.TOLD):
                self.assertFalse(self.holds(board(), "cash", 0, self.with_entry(at, (name, value, home))), value)
                self.assertFalse(self.holds(board(), "cash", 0, self.with_entry(at, (name, to, value))), value)

    def test_entries_that_are_no_triples(self):
        for at, entry in enumerate(self.TOLD):
            wrong = [list(entry), entry[:2], entry[:1], (), entry + (None,), entry * 2, entry[0], 3, None, (entry,)]
            for value in wrong + any_values():
                self.assertFalse(self.holds(board(), "cash", 0, self.with_entry(at, value)), value)

    def test_any_values_as_papers(self):
        values = any_values() + [
            list(self.TOLD), [list(entry) for entry in self.TOLD], dict.fromkeys(self.TOLD), "paper", (self.TOLD,),
            nested(8), paper, {"top": (0, 0)}, iter(self.TOLD),
        ]
        for value in values:
            for least in (0, 2, None):
                self.assertFalse(self.holds(board(), "cash", least, value))

    def test_the_paper_stays(self):
        entries = [["top"], list(self.TOLD[0])]
        self.assertFalse(self.holds(board(), "cash", 0, entries))
        self.assertEqual(entries, [["top"], ["top", 2, 2]])

    def test_each_action(self):
        rest = ["menu b tries 1\n1 line x\n3 back\nelse again", "menu c tries 1\n1 go b\nelse again"]
        numbers = (("b", 1, 1), ("c", 2, 2))
        cases = {
            "line x": (0, None), "line y": (None, None), "out": (None, None), "again": (None, None), "back": (None, 0),
            "main": (None, None), "go b": (1, 1), "go c": (2, 2), "call b c": (1, 3), "call c b": (2, 3),
            "call a b": (None, None), "call b a": (1, None),
        }
        for action, (to, home) in cases.items():
            dear = read(f"menu a tries 2\n1 {action}\n9 line y\nelse again", *rest)
            free = read(f"menu a tries 2\n9 line y\nelse {action}", *rest)
            # Lines stand in the rows of b, but for those that a row of a leads to.
            for shown, cost in ((dear, 1), (free, 0)):
                most = [None if number is None else number + cost for number in (to, home)]
                self.assertTrue(self.holds(shown, "x", most[0], (("a", *most), *numbers)), action)
                for at in (0, 1):
                    if most[at] is not None:
                        above = most[:]
                        above[at] += 1
                        self.assertFalse(self.holds(shown, "x", 0, (("a", *above), *numbers)), action)
                        above[at] = None
                        self.assertFalse(self.holds(shown, "x", 0, (("a", *above), *numbers)), action)

    def test_call_costs_the_less_of_both(self):
        rest = ["menu b tries 1\n1 go c\nelse back", "menu c tries 1\n1 line x\nelse out"]
        shown = read("menu a tries 1\nelse call b c", *rest)
        numbers = (("b", 2, 0), ("c", 1, None))
        self.assertTrue(self.holds(shown, "x", 1, (("a", 1, None), *numbers)))
        self.assertFalse(self.holds(shown, "x", 1, (("a", 2, None), *numbers)))
        # A paper that tells too little of what is called still is right, but shows less.
        self.assertTrue(self.holds(shown, "x", 0, (("a", 0, None), ("b", 0, 0), ("c", 0, None))))
        self.assertFalse(self.holds(shown, "x", 1, (("a", 1, None), ("b", 0, 0), ("c", 1, None))))

    def test_many_papers_near_right_ones(self):
        chance = random.Random(42)
        right = 0
        for _ in range(300):
            shown = some_board(chance, chance.randint(1, 5), 4)
            for line in shown.lines:
                for _ in range(6):
                    entries = [list(entry) for entry in paper(shown, line)]
                    for _ in range(chance.randint(1, 3)):
                        entry = chance.choice(entries)
                        entry[chance.randint(1, 2)] = chance.choice([0, 1, 2, 3, None])
                    value = tuple(tuple(entry) for entry in entries)
                    holds = plainly_right(shown, line, value)
                    right += holds
                    for least in (0, 1, 2, None):
                        to = [to for name, to, _ in value if name == shown.names[0]][0]
                        enough = to is None or (least is not None and to >= least)
                        self.assertEqual(self.holds(shown, line, least, value), holds and enough, (value, str(shown)))
        self.assertGreater(right, 100)

    def test_a_right_paper_never_tells_too_much(self):
        chance = random.Random(43)
        for _ in range(300):
            shown = Board(some_board(chance, 2, 3, ("x",)).menus)
            for line in shown.lines:
                least = fewest(shown, ["a"], line)
                numbers = [chance.choice([0, 1, 2, 3, 4, None]) for _ in range(4)]
                value = (("a", *numbers[:2]), ("b", *numbers[2:]))
                if least is not None:
                    self.assertFalse(self.holds(shown, line, least + 1, value), str(shown))


if __name__ == "__main__":
    unittest.main()
