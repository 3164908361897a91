"""Calls: [8] and [9]."""

import itertools
import random
import unittest

from menuhome.boards import Board
from menuhome.calls import Played, play
from menuhome.errors import InvalidEvent
from menuhome.menus import Menu
from model import Model
from samples import any_values, board, read


def told(played):
    return played.stack, played.tries, played.end, played.presses, played.started


def modelled(shown, events):
    """What the model tells of these events, and how many of them it did."""
    model = Model({menu.name: (dict(menu.rows), menu.tail, menu.tries, menu.clears) for menu in shown.menus})
    for at, event in enumerate(events):
        if model.end is not None:
            return model.told(), at
        model.do(event)
    return model.told(), len(events)


class CallCase(unittest.TestCase):
    def assert_played(self, shown, events, stack, tries, end, presses, started):
        played = play(shown, events)
        self.assertIsInstance(played, Played)
        self.assertEqual(told(played), (stack, tries, end, presses, tuple(started.split())), events)

    def assert_event(self, at, shown, events):
        with self.assertRaises(InvalidEvent) as caught:
            play(shown, events)
        self.assertEqual(caught.exception.at, at, events)


class Playing(CallCase):
    def test_the_beginning(self):
        self.assert_played(board(), [], ("top",), 2, None, 0, "top")
        self.assert_played(board(), (), ("top",), 2, None, 0, "top")
        self.assert_played(read("menu a tries 3 clear\nelse out"), [], ("a",), 3, None, 0, "a")

    def test_single_digits(self):
        self.assert_played(board(), ["1"], ("pay", "bye"), 1, None, 1, "top pay")
        self.assert_played(board(), ["2"], ("ask",), 1, None, 1, "top ask")
        self.assert_played(board(), ["3"], (), 0, "desk", 1, "top")
        self.assert_played(board(), ["1", "1"], (), 0, "cash", 2, "top pay")
        self.assert_played(board(), ["1", "2"], ("bye",), 1, None, 2, "top pay bye")
        self.assert_played(board(), ("1", "2", "1"), ("bye",), 1, None, 3, "top pay bye bye")
        self.assert_played(board(), ("1", "2", "9"), (), 0, "out", 3, "top pay bye")

    def test_wrong_digits_use_up_tries(self):
        self.assert_played(board(), ["4"], ("top",), 1, None, 1, "top")
        self.assert_played(board(), ["4", "3"], (), 0, "desk", 2, "top")
        self.assert_played(board(), ["4", "5"], ("top",), 2, None, 2, "top top")
        self.assert_played(board(), ["1", "3"], ("bye",), 1, None, 2, "top pay bye")
        self.assert_played(board(), ["2", "2"], (), 0, "out", 2, "top ask")

    def test_silence_uses_up_tries(self):
        self.assert_played(board(), ["-"], ("top",), 1, None, 0, "top")
        self.assert_played(board(), ["-", "-"], ("top",), 2, None, 0, "top top")
        self.assert_played(board(), ["-", "4", "-"], ("top",), 1, None, 1, "top top")
        self.assert_played(board(), ["1", "-"], ("bye",), 1, None, 1, "top pay bye")
        self.assert_played(board(), ["1", "-", "-"], (), 0, "out", 1, "top pay bye")

    def test_a_menu_that_starts_has_all_its_tries(self):
        shown = read("menu a tries 3\n1 again\n2 call b a\nelse line x", "menu b tries 2\n1 back\nelse main")
        self.assert_played(shown, ["-", "-"], ("a",), 1, None, 0, "a")
        self.assert_played(shown, ["-", "-", "1"], ("a",), 3, None, 1, "a a")
        self.assert_played(shown, ["-", "-", "2", "-", "1"], ("a",), 3, None, 2, "a b a")
        self.assert_played(shown, ["-", "2", "-", "-"], ("a",), 3, None, 1, "a b a")
        self.assert_played(shown, ["-", "-", "-"], (), 0, "x", 0, "a")

    def test_several_digits_at_once(self):
        self.assert_played(board(), ["11"], (), 0, "cash", 2, "top pay")
        self.assert_played(board(), ["43"], (), 0, "desk", 2, "top")
        self.assert_played(board(), ["121"], ("bye",), 1, None, 3, "top pay bye bye")
        self.assert_played(board(), ["12111"], ("bye",), 1, None, 5, "top pay bye bye bye bye")
        self.assert_played(board(), ["444441"], ("pay", "bye"), 1, None, 6, "top top top pay")

    def test_pending_digits_are_dropped_when_the_call_is_over(self):
        self.assert_played(board(), ["3111"], (), 0, "desk", 1, "top")
        self.assert_played(board(), ["12999"], (), 0, "out", 3, "top pay bye")
        self.assert_played(board(), ["1251"], (), 0, "out", 3, "top pay bye")

    def test_menus_that_clear(self):
        self.assert_played(board(), ["2111"], ("ask",), 1, None, 1, "top ask")
        self.assert_played(board(), ["21", "11", "1"], ("ask",), 1, None, 3, "top ask ask ask")
        self.assert_played(board(), ["2", "-1"], (), 0, "out", 1, "top ask")
        shown = read("menu a tries 2 clear\n1 call b a\n2 line x\nelse again", "menu b tries 1\n1 back\nelse back")
        self.assert_played(shown, ["3321"], ("a",), 2, None, 2, "a a")
        self.assert_played(shown, ["32"], (), 0, "x", 2, "a")
        self.assert_played(shown, ["1112"], ("a",), 2, None, 2, "a b a")
        self.assert_played(shown, ["1", "-2"], ("a",), 2, None, 1, "a b a")
        self.assert_played(shown, ["-2"], (), 0, "x", 1, "a")
        self.assert_played(shown, ["-", "-2"], ("a",), 2, None, 0, "a a")

    def test_late_digits(self):
        self.assert_played(board(), ["-3"], (), 0, "desk", 1, "top")
        self.assert_played(board(), ["-4"], ("top",), 2, None, 1, "top top")
        self.assert_played(board(), ["-", "-4"], ("top",), 1, None, 1, "top top")
        self.assert_played(board(), ["1", "-1"], ("bye",), 1, None, 2, "top pay bye bye")
        self.assert_played(board(), ["1", "-9"], (), 0, "out", 2, "top pay bye")
        self.assert_played(board(), ["1", "2", "-9"], (), 0, "out", 2, "top pay bye")

    def test_called_menus_come_home(self):
        shown = read(
            "menu a tries 1\n1 call b c\n2 back\nelse out", "menu b tries 1\n1 call c a\n2 back\n3 go c\nelse back",
            "menu c tries 1\n1 call a b\n2 back\n3 call c c\n4 main\nelse back",
        )
        self.assert_played(shown, ["1"], ("b", "c"), 1, None, 1, "a b")
        self.assert_played(shown, ["1", "1"], ("c", "a", "c"), 1, None, 2, "a b c")
        self.assert_played(shown, ["111"], ("a", "b", "a", "c"), 1, None, 3, "a b c a")
        self.assert_played(shown, ["1112"], ("b", "a", "c"), 1, None, 4, "a b c a b")
        self.assert_played(shown, ["11122"], ("a", "c"), 1, None, 5, "a b c a b a")
        self.assert_played(shown, ["111222"], ("c",), 1, None, 6, "a b c a b a c")
        self.assert_played(shown, ["1112222"], (), 0, "out", 7, "a b c a b a c")
        self.assert_played(shown, ["13"], ("c", "c"), 1, None, 2, "a b c")
        self.assert_played(shown, ["133"], ("c", "c", "c"), 1, None, 3, "a b c c")
        self.assert_played(shown, ["11", "-", "1"], ("b", "c", "c"), 1, None, 3, "a b c a b")

    def test_main_forgets_what_is_due(self):
        shown = read("menu a tries 2\n1 call b b\n2 back\nelse out", "menu b tries 1\n1 call b b\n2 main\nelse main")
        self.assert_played(shown, ["1112"], ("a",), 2, None, 4, "a b b b a")
        self.assert_played(shown, ["11122"], (), 0, "out", 5, "a b b b a")
        self.assert_played(shown, ["1", "-"], ("a",), 2, None, 1, "a b a")
        self.assert_played(read("menu a tries 2\n1 main\nelse out"), ["4", "1"], ("a",), 2, None, 2, "a a")

    def test_go_and_again_keep_what_is_due(self):
        rows = "1 again\n2 go b\n3 go a\n4 back"
        shown = read("menu a tries 1\n1 call b a\nelse out", f"menu b tries 1\n{rows}\nelse again")
        self.assert_played(shown, ["11"], ("b", "a"), 1, None, 2, "a b b")
        self.assert_played(shown, ["12"], ("b", "a"), 1, None, 2, "a b b")
        self.assert_played(shown, ["13"], ("a", "a"), 1, None, 2, "a b a")
        self.assert_played(shown, ["1", "-", "4"], ("a",), 1, None, 2, "a b b a")

    def test_every_action_as_a_tail(self):
        ends = {"line x": "x", "out": "out", "back": "out"}
        for action, end in ends.items():
            shown = read("menu a tries 2\nelse " + action, "menu b tries 1\nelse out")
            self.assert_played(shown, ["-", "7"], (), 0, end, 1, "a")
        stacks = {"again": ("a",), "main": ("a",), "go b": ("b",), "call b a": ("b", "a"), "call b b": ("b", "b")}
        tries = {"a": 2, "b": 1}
        for action, stack in stacks.items():
            shown = read("menu a tries 2\nelse " + action, "menu b tries 1\nelse out")
            self.assert_played(shown, ["-", "7"], stack, tries[stack[0]], None, 1, "a " + stack[0])

    def test_a_line_of_any_name(self):
        shown = read("menu a tries 1\n1 line a\n2 line zzzz\nelse out")
        self.assertEqual([play(shown, [digit]).end for digit in "123"], ["a", "zzzz", "out"])

    def test_later_events_do_not_change_what_was_returned(self):
        shown = board()
        events = ["1"]
        played = play(shown, events)
        events.append("1")
        play(shown, events)
        self.assertEqual(told(played), (("pay", "bye"), 1, None, 1, ("top", "pay")))


class Refusing(CallCase):
    def test_no_sequence(self):
        for value in any_values():
            if not isinstance(value, (list, tuple)):
                self.assert_event(0, board(), value)
        for value in ("1", "-", "11", "", {"1": 1}, {"1"}, iter(["1"])):
            self.assert_event(0, board(), value)

    def test_wrong_events(self):
        wrong = [
            "", "--", "--1", "-12", "1-", "1-2", "- 1", "-1 ", " 1", "1 2", "1\n", "-\n", "+1", "\u0661", "1\u0662",
            "-\u0661", "\u00b2", "back", "1.0",
        ]
        signs = [chr(sign) for sign in range(32, 127) if chr(sign) not in "-0123456789"]
        wrong += [start + sign for start in ("", "-", "1") for sign in signs]
        for event in wrong + any_values():
            if event == "12345":
                continue
            self.assert_event(0, board(), [event])
            self.assert_event(0, board(), (event, "3"))
            self.assert_event(2, board(), ["4", "-", event])
            self.assert_event(1, board(), ["1", event, event, "1"])

    def test_events_behind_the_end(self):
        self.assert_event(1, board(), ["3", "-"])
        self.assert_event(1, board(), ["3", "1", "1"])
        self.assert_event(2, board(), ["1", "-9", "3"])
        self.assert_event(3, board(), ["2", "1", "-", "-1"])
        self.assert_event(1, board(), ["31", "1"])

    def test_the_first_wrong_thing_is_told(self):
        self.assert_event(1, board(), ["3", "-", "x"])
        self.assert_event(1, board(), ["3", "x", "-"])
        self.assert_event(0, board(), ["x", "3", "-"])
        self.assert_event(1, board(), ["4", None, "3", "-"])
        self.assert_event(2, board(), ["4", "3", []])

    def test_events_of_every_length(self):
        for many in range(1, 30):
            self.assertEqual(play(board(), ["4" * many]).presses, many)


class Comparing(CallCase):
    """The package and the model tell the same."""

    def compare(self, shown, events):
        expected, done = modelled(shown, events)
        self.assertEqual(told(play(shown, events[:done])), expected, (str(shown), events))
        if done < len(events):
            self.assert_event(done, shown, events)

    def test_all_short_calls(self):
        single = ["-", "1", "2", "3", "9", "-1", "-2", "-9", "12", "21", "121", "299", "441", "129"]
        for many in range(4):
            for events in itertools.product(single, repeat=many):
                self.compare(board(), events)

    def test_many_boards(self):
        chance = random.Random(8)
        for _ in range(1500):
            names = ["a", "b", "c", "d"][:chance.randint(1, 4)]
            shown = Board([self.some_menu(chance, name, names) for name in names])
            for _ in range(4):
                self.compare(shown, [self.some_event(chance) for _ in range(chance.randint(0, 8))])

    def some_action(self, chance, names):
        one, other = chance.choice(names), chance.choice(names)
        few = ["line x", "line y", "out", "main"]
        many = ["again", "back", "back", f"go {one}", f"call {one} {other}", f"call {other} {one}"]
        return chance.choice(few + many * 3)

    def some_menu(self, chance, name, names):
        rows = [(digit, self.some_action(chance, names)) for digit in "1234" if chance.random() < 0.7]
        return Menu(name, rows, self.some_action(chance, names), chance.randint(1, 3), chance.random() < 0.3)

    def some_event(self, chance):
        digits = "".join(chance.choice("12345") for _ in range(chance.randint(1, 6)))
        return chance.choice(["-", "-" + digits[0], digits[0], digits, digits])


if __name__ == "__main__":
    unittest.main()
