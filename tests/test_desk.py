"""Desks: [20], [21]."""

import random
import unittest

from chances import some_board, some_event
from menuhome.boards import Board
from menuhome.calls import play
from menuhome.deciding import caught, fewest, silence
from menuhome.desk import Desk
from menuhome.errors import InvalidBoard, InvalidCommand, InvalidEvent, InvalidGoal, InvalidMenu, InvalidText
from menuhome.live import Live
from samples import LINES, any_values, board

BOARD = "board " + " ; ".join(LINES)

# Strings that are no commands, on whatever board.
NO_COMMANDS = [
    "", " ", "  ", "\n", "do", "do ", "do  1", " do 1", "do 1 ", "do 1 2", "do 1 -", "fewest", "fewest ", "fewest  x",
    "fewest cash desk", "fewest cash ", "presses 1", "presses ", " presses", "silence top", "silence ", "caught top",
    "caught ", "undo 1", "undo ", "undo undo", "board", "board ", "board  menu a tries 1 ; else out",
    "board menu a tries 1 ;  else out", "board menu a tries 1 ; else out ", " board menu a tries 1 ; else out",
    "board menu  a tries 1 ; else out", "board menu a tries 1\nelse out", "board menu a tries 1 ; else out\n",
    "board\nmenu a tries 1 ; else out", "do 1\n", "\ndo 1", "do\n1", "do 1\n2", "presses\n", "undo\n", "caught\n",
    "silence\nundo", "fewest\ncash", "jump", "jump 1", "Do 1", "DO 1", "do-1", "do1", "boards x", "Board x", "live",
    "events", "played", "alive", "say", "never", "redo", "undo;", "presses;", "do 1 ; do 2", "caught ; undo", ";",
    "1", "-", "-5", "top", "cash", "menu", "else", "none", "back", "do\t1", "presses\t", "\tpresses",
]


class DeskCase(unittest.TestCase):
    def desk(self, *commands):
        """A desk with the board of the document, that did these commands."""
        desk = Desk()
        self.assertEqual(desk.say(BOARD), "4")
        for command in commands:
            desk.say(command)
        return desk

    def assert_say(self, desk, **answers):
        """The answers to these commands, of one word each."""
        for command, answer in answers.items():
            told = desk.say(command)
            self.assertEqual(told, answer, command)
            self.assertIs(type(told), str)

    def assert_wrong(self, desk, command, error, **details):
        """A command is wrong, and changes nothing."""
        live = desk.live
        state = live and (str(live.board), live.events, len(live), live.played)
        with self.assertRaises(error) as raised:
            desk.say(command)
        self.assertIs(type(raised.exception), error, command)
        self.assertEqual(vars(raised.exception), details, command)
        self.assertIs(desk.live, live)
        self.assertEqual(live and (str(live.board), live.events, len(live), live.played), state)


class Commands(DeskCase):
    def test_the_example_of_the_document(self):
        desk = Desk()
        commands = [BOARD, "do 1", "silence", "do 1", "presses", "fewest cash", "caught"]
        self.assertEqual([desk.say(command) for command in commands], ["4", "pay bye", "out", "cash", "2", "2",
                                                                       "ask bye"])

    def test_at_first(self):
        self.assertIsNone(Desk().live)

    def test_board(self):
        desk = Desk()
        self.assertEqual(desk.say(BOARD), "4")
        self.assertIsInstance(desk.live, Live)
        self.assertEqual((desk.live.board, desk.live.events, len(desk.live)), (board(), (), 0))
        self.assertEqual(desk.say("board menu a tries 1 ; else out"), "1")

    def test_do(self):
        desk = self.desk()
        self.assertEqual([desk.say(f"do {event}") for event in ("5", "12", "1", "9")], ["top", "bye", "bye", "out"])
        self.assertEqual(desk.live.events, ("5", "12", "1", "9"))
        desk = self.desk()
        self.assertEqual([desk.say(f"do {event}") for event in ("-", "-1", "-1")], ["top", "pay bye", "bye"])
        self.assertEqual([self.desk().say(f"do {event}") for event in ("3", "11", "-3")], ["desk", "cash", "desk"])

    def test_do_with_a_deep_stack(self):
        desk = Desk()
        desk.say("board menu a tries 1 ; 1 call a b ; else out ; menu b tries 1 ; else line x")
        self.assertEqual(desk.say("do 11"), "a b b")
        self.assertEqual(desk.say("do 1"), "a b b b")

    def test_presses(self):
        desk = self.desk()
        for event, presses in (("", "0"), ("5", "1"), ("-", "1"), ("-1", "2"), ("29", "4"), ("undo", "2"), ("1", "3")):
            if event:
                desk.say(event if event == "undo" else f"do {event}")
            self.assert_say(desk, presses=presses)
        self.assertEqual(desk.live.played.end, "cash")
        # Digits that were dropped are none that were pressed.
        self.assert_say(self.desk("do 3999"), presses="1")

    def test_fewest(self):
        desk = self.desk()
        for command in ("do 5", "do 1", "do 1"):
            self.assertEqual((desk.say("fewest cash"), desk.say("fewest desk")), ("2", "1"))
            desk.say(command)
        # The call is over now.
        self.assertEqual((desk.say("fewest cash"), desk.say("fewest desk")), ("2", "1"))
        desk.say("board menu a tries 1 ; else line x ; menu b tries 1 ; else line y")
        self.assertEqual((desk.say("fewest x"), desk.say("fewest y")), ("0", "never"))

    def test_fewest_is_that_from_the_beginning(self):
        desk = self.desk("do 2")
        self.assertEqual((desk.live.alive, desk.say("fewest cash"), desk.say("fewest desk")), (False, "2", "1"))

    def test_silence(self):
        desk = self.desk()
        self.assert_say(desk, silence="round")
        desk.say("do 1")
        self.assert_say(desk, silence="out")
        desk.say("do 1")
        self.assert_say(desk, silence="cash")
        self.assert_say(self.desk("do 1", "do -", "do 9"), silence="out")
        desk.say("board menu a tries 2 ; 1 call b c ; else out ; menu b tries 3 ; else back ; menu c tries 1 "
                 "; 1 back ; else line x")
        self.assert_say(desk, silence="out")
        desk.say("do 1")
        self.assert_say(desk, silence="x")
        desk.say("do -")
        self.assert_say(desk, silence="x")

    def test_silence_does_nothing(self):
        desk = self.desk("do 1")
        self.assert_say(desk, silence="out")
        self.assertEqual((desk.live.events, desk.live.played.end), (("1",), None))

    def test_caught(self):
        desk = self.desk()
        self.assert_say(desk, caught="ask bye")
        desk.say("do 3")
        self.assert_say(desk, caught="ask bye")
        desk.say("board menu a tries 1 ; 1 line x ; else out")
        self.assert_say(desk, caught="none")
        desk.say("do 1")
        self.assert_say(desk, caught="none")
        desk.say("board menu a tries 1 ; else out")
        self.assert_say(desk, caught="a")

    def test_undo(self):
        desk = self.desk()
        self.assert_say(desk, undo="nothing")
        desk.say("do 5")
        desk.say("do 3")
        self.assert_say(desk, undo="undone")
        self.assertEqual((desk.live.events, desk.live.played.stack, desk.live.played.tries), (("5",), ("top",), 1))
        self.assert_say(desk, undo="undone")
        self.assert_say(desk, undo="nothing")
        self.assertEqual(desk.live.events, ())
        self.assertEqual(desk.say("do 1"), "pay bye")

    def test_all_commands_in_a_call_that_is_over(self):
        for events, end, presses in ((["3"], "desk", "1"), (["12", "9"], "out", "3"), (["-", "1", "1"], "cash", "2")):
            desk = self.desk(*[f"do {event}" for event in events])
            self.assertEqual(desk.live.played.end, end)
            self.assert_say(desk, presses=presses, silence=end, caught="ask bye")
            self.assertEqual((desk.say("fewest cash"), desk.say("fewest desk")), ("2", "1"))
            self.assert_wrong(desk, "do 1", InvalidEvent, at=len(events))
            self.assert_say(desk, undo="undone")
            self.assertEqual(desk.live.played.end, None)
            self.assertEqual(desk.say("board menu a tries 1 ; else out"), "1")
            self.assert_say(desk, presses="0", undo="nothing")

    def test_a_new_board_starts_a_new_call(self):
        desk = self.desk("do 1", "do 2")
        old = desk.live
        self.assertEqual(desk.say(BOARD), "4")
        self.assertIsNot(desk.live, old)
        self.assertEqual((desk.live.events, len(desk.live), old.events), ((), 0, ("1", "2")))
        self.assert_say(desk, presses="0", undo="nothing", silence="round")

    def test_the_live_call_can_be_used(self):
        desk = self.desk()
        self.assertEqual(desk.live.several(["5", "1"]), (("top",), ("pay", "bye")))
        self.assertEqual((desk.say("presses"), desk.say("do 2"), desk.say("undo"), desk.say("undo")),
                         ("2", "bye", "undone", "undone"))
        self.assertEqual(desk.live.within(lambda live: desk.say("do 3")), "desk")
        self.assert_say(desk, presses="0")


class Texts(DeskCase):
    def test_the_text_of_each_board(self):
        chance = random.Random(61)
        desk = Desk()
        for _ in range(50):
            shown = some_board(chance, chance.randint(1, 6), 5)
            self.assertEqual(desk.say("board " + str(shown).replace("\n", " ; ")), str(len(shown)))
            self.assertEqual(desk.live.board, shown)

    def test_replaced_from_left_to_right(self):
        desk = self.desk()
        # The first of the two takes the blank that the second one would need.
        for text, at in (
            ("menu a tries 1 ; ; else out", 1), ("menu a tries 1 ; ; ; else out", 1), ("; menu a tries 1 ; else out", 0),
            ("menu a tries 1 ; else out ;", 1), (";", 0), ("; ; menu a tries 1 ; else out", 0), ("x", 0), ("; ;", 0),
            ("menu a tries 1; else out", 0), ("menu a tries 1 ;else out", 0), ("menu a tries 1", 1),
            ("menu a tries 1 ; 1 out", 2), ("menu a tries 1 ; 1 out ; 1 back ; else out", 2),
            ("menu a tries 1 ; else out ; 1 out", 2), ("menu a tries 1 ; else out ; menu b tries 1", 3),
            ("menu a tries 1 ; else jump", 1), ("menu a tries 01 ; else out", 0), ("menu main tries 1 ; else out", 0),
        ):
            self.assert_wrong(desk, "board " + text, InvalidText, at=at)
            with self.assertRaises(InvalidText) as raised:
                Board.read(text.replace(" ; ", "\n"))
            self.assertEqual(raised.exception.at, at)

    def test_a_board_that_is_refused(self):
        for desk in (Desk(), self.desk("do 1")):
            self.assert_wrong(desk, "board menu a tries 0 ; else out", InvalidMenu, word="tries")
            self.assert_wrong(desk, "board menu a tries 1 ; else go b", InvalidBoard, word="menu")
            self.assert_wrong(desk, "board menu a tries 1 ; else out ; menu a tries 1 ; else out", InvalidBoard,
                              word="name")
            self.assert_wrong(desk, "board menu a tries 0 ; else out ; menu a tries 1", InvalidText, at=3)
            self.assert_wrong(desk, "board menu a tries 0 ; else out ; menu a tries 1 ; else go b", InvalidMenu,
                              word="tries")

    def test_the_call_goes_on_behind_a_board_that_is_refused(self):
        desk = self.desk("do 1")
        self.assert_wrong(desk, "board x", InvalidText, at=0)
        self.assertEqual((desk.say("presses"), desk.say("do 1"), desk.say("undo")), ("1", "cash", "undone"))


class Wrong(DeskCase):
    def test_what_is_no_string(self):
        values = [value for value in any_values() if not isinstance(value, str)]
        values += [["undo"], ("undo",), b"undo", 1, {"undo"}, Desk, Desk()]
        for desk in (Desk(), self.desk("do 5"), self.desk("do 3")):
            for value in values:
                self.assert_wrong(desk, value, InvalidCommand)

    def test_what_is_no_command(self):
        for desk in (Desk(), self.desk("do 5"), self.desk("do 3")):
            for value in NO_COMMANDS + [value for value in any_values() if isinstance(value, str)]:
                self.assert_wrong(desk, value, InvalidCommand)

    def test_ahead_of_the_first_board(self):
        desk = Desk()
        for command in ("do 1", "do x", "presses", "fewest cash", "fewest x", "silence", "caught", "undo"):
            self.assert_wrong(desk, command, InvalidCommand)
        self.assert_wrong(desk, "board x", InvalidText, at=0)
        for command in ("do 1", "presses", "undo"):
            self.assert_wrong(desk, command, InvalidCommand)
        self.assertIsNone(desk.live)
        self.assertEqual(desk.say(BOARD), "4")
        self.assert_say(desk, presses="0")

    def test_events(self):
        for commands in ([], ["do 5", "do 1"], ["do 3"]):
            desk = self.desk(*commands)
            for event in ("x", "--", "-12", "5-", "top", "1x", "\t", "1\t", "\u0663", ";", "out", "do", "undo", "+1"):
                self.assert_wrong(desk, f"do {event}", InvalidEvent, at=len(commands))
        for event in ("1", "-", "-3", "123"):
            self.assert_wrong(self.desk("do 5", "do 3"), f"do {event}", InvalidEvent, at=2)

    def test_lines(self):
        for desk in (self.desk(), self.desk("do 1"), self.desk("do 3")):
            for line in ("back", "top", "pay", "x", "Cash", "cas", "cashs", "line", "out", "round", "never", "none",
                         "1", ";", "cash;", "cash\t", "main"):
                self.assert_wrong(desk, f"fewest {line}", InvalidGoal)

    def test_lines_are_those_of_the_board_that_is_there(self):
        desk = self.desk()
        desk.say("board menu cash tries 1 ; else line x")
        self.assert_wrong(desk, "fewest cash", InvalidGoal)
        self.assertEqual(desk.say("fewest x"), "0")

    def test_newlines_come_first(self):
        desk = self.desk("do 3")
        self.assert_wrong(desk, "do 1\n", InvalidCommand)
        self.assert_wrong(desk, "fewest\nx", InvalidCommand)
        self.assert_wrong(desk, "board x ; y\n", InvalidCommand)
        self.assert_wrong(desk, "board x  y", InvalidCommand)
        self.assert_wrong(desk, "board x ", InvalidCommand)
        self.assert_wrong(desk, "board x", InvalidText, at=0)


class Apart(DeskCase):
    def test_desks_do_not_touch_each_other(self):
        one, other = self.desk(), self.desk()
        one.say("do 1")
        self.assert_say(other, presses="0")
        self.assertIsNone(Desk().live)
        other.say("board menu a tries 1 ; else out")
        self.assertEqual(len(one.live.board), 4)

    def test_not_iterable(self):
        desk = self.desk("do 1")
        self.assertRaises(TypeError, iter, desk)
        self.assertRaises(TypeError, list, desk)
        self.assertRaises(TypeError, len, desk)
        self.assertEqual((desk == Desk(), desk == desk), (False, True))


class Comparing(DeskCase):
    def expected(self, shown, events, command):
        """What play and the deciding functions tell, as a desk would."""
        played = play(shown, events)
        over = played.end is not None
        if command == "presses":
            return str(played.presses)
        if command == "silence":
            return played.end if over else silence(shown, played.stack)
        if command == "caught":
            return " ".join(caught(shown) or ["none"])
        if command.startswith("fewest "):
            least = fewest(shown, shown.names[:1], command.split(" ")[1])
            return "never" if least is None else str(least)
        return played.end if over else " ".join(played.stack)

    def test_desks_beside_play(self):
        chance = random.Random(62)
        for _ in range(120):
            shown = some_board(chance, chance.randint(1, 6), 5)
            desk = Desk()
            desk.say("board " + " ; ".join(str(shown).split("\n")))
            events = []
            for _ in range(12):
                self.step(chance, desk, shown, events)
                for command in ("presses", "silence", "caught", *[f"fewest {line}" for line in shown.lines]):
                    self.assertEqual(desk.say(command), self.expected(shown, events, command), (events, str(shown)))
                self.assertEqual(desk.live.events, tuple(events))

    def step(self, chance, desk, shown, events):
        over = play(shown, events).end is not None
        if chance.random() < 0.3:
            self.assertEqual(desk.say("undo"), "undone" if events else "nothing")
            del events[-1:]
        elif over:
            self.assert_wrong(desk, "do 1", InvalidEvent, at=len(events))
        else:
            events.append(some_event(chance))
            self.assertEqual(desk.say(f"do {events[-1]}"), self.expected(shown, events, "do"))


if __name__ == "__main__":
    unittest.main()
