"""Digits that go astray: [14]."""

import random
import unittest

from chances import some_board
from menuhome.calls import play
from menuhome.late import astray
from samples import board, read
from walk import Walk


def played_astray(shown, deepest):
    """The digits that go astray as play shows it, in calls whose stacks have at most so many menus."""
    walk = Walk(shown, deepest)
    ways = {walk.start([walk.main]): []}
    found = set()
    for state in (todo := list(ways)):
        events = ways[state]
        if state[1] == 1:
            found.update(late_digits(shown, events))
        for sign in walk.signs(state):
            behind = walk.press(state, sign)
            if isinstance(behind, tuple) and behind not in ways:
                ways[behind] = events + [sign]
                todo.append(behind)
    return tuple(sorted(found)), walk.cut


def late_digits(shown, events):
    """Triples of the menu that waits behind these events, with one try left, and where its digits choose."""
    before = play(shown, events)
    for digit, _ in shown.menu(before.stack[0]).rows:
        silent, behind = play(shown, events + ["-"]), play(shown, events + ["-" + digit])
        # A digit that was dropped was not pressed.
        if silent.end is None and behind.presses > before.presses:
            other = shown.menu(silent.stack[0])
            if other.name != before.stack[0] and other.action(digit) is not None:
                yield before.stack[0], digit, other.name


class Astray(unittest.TestCase):
    def assert_astray(self, shown, *triples):
        self.assertEqual(astray(shown), triples)

    def test_the_board_of_the_document(self):
        self.assert_astray(board(), ("pay", "1", "bye"))
        self.assert_astray(board().having("bye", "2", "out"), ("pay", "1", "bye"), ("pay", "2", "bye"))

    def test_a_tail_that_goes(self):
        shown = read(
            "menu a tries 1\n1 out\n2 out\n3 out\nelse go b", "menu b tries 1\n1 out\n3 line x\n4 out\nelse out",
        )
        self.assert_astray(shown, ("a", "1", "b"), ("a", "3", "b"))

    def test_a_tail_that_calls(self):
        shown = read(
            "menu a tries 1\n1 out\n2 out\nelse call b c", "menu b tries 1\n1 back\nelse out",
            "menu c tries 1\n2 out\nelse out"
        )
        self.assert_astray(shown, ("a", "1", "b"))

    def test_a_tail_that_comes_home_to_what_is_due(self):
        shown = read(
            "menu a tries 1\n1 call b c\n2 call b d\n3 call b a\nelse out",
            "menu b tries 1\n1 out\n2 out\n3 out\nelse back",
            "menu c tries 1\n1 out\nelse out", "menu d tries 1\n2 out\n3 out\n4 out\nelse out",
        )
        self.assert_astray(
            shown, ("b", "1", "a"), ("b", "1", "c"), ("b", "2", "a"), ("b", "2", "d"), ("b", "3", "a"), ("b", "3", "d"),
        )

    def test_a_tail_that_comes_home_to_nothing(self):
        self.assert_astray(read("menu a tries 1\n1 out\nelse back", "menu b tries 1\n1 out\nelse back"))

    def test_a_tail_that_leads_to_the_main_menu(self):
        shown = read("menu a tries 3\n1 go b\n2 call b b\nelse main", "menu b tries 1\n1 out\n2 out\n3 back\nelse main")
        self.assert_astray(shown, ("b", "1", "a"), ("b", "2", "a"))

    def test_tails_behind_which_the_call_is_over(self):
        for tail in ("out", "line b", "line x", "again"):
            shown = read("menu a tries 1\n1 call b b\nelse " + tail, "menu b tries 1\n1 back\nelse " + tail)
            self.assert_astray(shown)

    def test_the_same_menu(self):
        for tail in ("again", "go a", "main", "call a b", "back"):
            shown = read("menu a tries 2\n1 call a a\nelse " + tail, "menu b tries 1\n1 out\nelse out")
            self.assert_astray(shown)
        shown = read("menu a tries 1\n1 call b b\nelse go b", "menu b tries 1\n1 again\nelse back")
        self.assert_astray(shown, ("a", "1", "b"))

    def test_a_menu_that_clears(self):
        rows = "1 out\n2 line x"
        for tail in ("go b", "call b a"):
            self.assert_astray(read(f"menu a tries 1\n{rows}\nelse {tail}", f"menu b tries 1 clear\n{rows}\nelse out"))
            # That the first one clears does not help.
            told = astray(read(f"menu a tries 1 clear\n{rows}\nelse {tail}", f"menu b tries 1\n{rows}\nelse out"))
            self.assertEqual(told, (("a", "1", "b"), ("a", "2", "b")))

    def test_a_menu_without_such_a_row(self):
        shown = read(
            "menu a tries 1\n1 out\nelse go b", "menu b tries 1\n2 out\nelse go c",
            "menu c tries 1\n1 out\n2 out\nelse out"
        )
        # The digit of a is pressed in b, and uses up its try: it does not choose in c.
        self.assert_astray(shown, ("b", "2", "c"))

    def test_tries(self):
        for tries in (1, 2, 3):
            shown = read(f"menu a tries {tries}\n1 out\n2 out\nelse go b", "menu b tries 3\n2 again\nelse go a")
            self.assert_astray(shown, ("a", "2", "b"), ("b", "2", "a"))

    def test_menus_that_nobody_reaches(self):
        shown = read("menu a tries 1\n1 out\nelse out", "menu b tries 1\n1 out\nelse go a")
        self.assert_astray(shown)
        shown = read("menu a tries 1\n1 call b c\nelse out", "menu b tries 1\n1 out\nelse again",
                     "menu c tries 1\n1 out\nelse go a")
        self.assert_astray(shown)
        self.assert_astray(shown.having("b", "2", "back"), ("c", "1", "a"))

    def test_only_what_is_due_in_some_call(self):
        shown = read(
            "menu a tries 1\n2 call b c\nelse out", "menu b tries 1\n1 out\nelse back",
            "menu c tries 1\n1 out\nelse out",
            "menu d tries 1\n1 call b d\nelse out",
        )
        self.assert_astray(shown, ("b", "1", "c"))

    def test_what_play_shows(self):
        chance = random.Random(21)
        met = 0
        for _ in range(400):
            shown = some_board(chance, chance.randint(1, 4), 4)
            told, cut = played_astray(shown, 4)
            met += len(told)
            if cut:
                self.assertLessEqual(set(told), set(astray(shown)), str(shown))
            else:
                self.assertEqual(told, astray(shown), str(shown))
        self.assertGreater(met, 100)


if __name__ == "__main__":
    unittest.main()
