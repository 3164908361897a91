"""Live calls: [19]."""

import random
import unittest

from chances import some_board, some_event
from menuhome.boards import Board
from menuhome.calls import Played, play
from menuhome.deciding import fewest
from menuhome.errors import InvalidEvent, Refused
from menuhome.live import Live
from model import Model
from samples import any_values, board, read
from walk import Walk

NO_EVENTS = [
    "", "--", "-12", "1-", "5-", " 5", "5 ", "- 5", "-a", "a", "1a2", "-5\n", "\n", "line", "\u0663", "\u00b2", "+5",
    5, -5, 0, 1.5, None, True, False, b"5", ("5",), ["5"], (), [], {"5": 1}, {"5"}, ["-"],
]
NO_SEQUENCES = ["12", "-", "", "1", {"1": "1"}, {"1"}, range(3), iter(["1"]), b"12", Live]


def wrong_events():
    """Any values, none of which is an event."""
    return NO_EVENTS + [value for value in any_values() if value != "12345"]


def told(played):
    return played.stack, played.tries, played.end, played.presses, played.started


class LiveCase(unittest.TestCase):
    def assert_live(self, live, shown, events, many):
        """All that a live call tells of itself."""
        self.assertEqual(live.events, tuple(events))
        self.assertIs(type(live.events), tuple)
        self.assertIs(live.board, shown)
        self.assertIsInstance(live.played, Played)
        expected = play(shown, events)
        self.assertEqual(told(live.played), told(expected))
        self.assertEqual(len(live), many)
        self.assertIs(live.alive, self.is_alive(shown, expected.stack))

    def is_alive(self, shown, stack):
        """Whether some line can be come to from a stack, line by line."""
        return len(stack) > 0 and any(fewest(shown, stack, line) is not None for line in shown.lines)

    def assert_wrong(self, live, event):
        """An event cannot be done, and changes nothing."""
        shown, events, many = live.board, live.events, len(live)
        with self.assertRaises(InvalidEvent) as error:
            live.do(event)
        self.assertEqual(error.exception.at, len(events), event)
        self.assert_live(live, shown, events, many)

    def assert_refused(self, live, at, number, events):
        """Several events are refused by the one at this index, that is number so much of the call."""
        shown, so_far, many = live.board, live.events, len(live)
        with self.assertRaises(Refused) as error:
            live.several(events)
        self.assertEqual(error.exception.at, at, events)
        self.assertIs(type(error.exception.__cause__), InvalidEvent)
        self.assertEqual(error.exception.__cause__.at, number, events)
        self.assert_live(live, shown, so_far, many)


class Do(LiveCase):
    def test_the_beginning(self):
        shown = board()
        live = Live(shown)
        self.assert_live(live, shown, [], 0)
        self.assertEqual(told(live.played), (("top",), 2, None, 0, ("top",)))
        self.assertIs(live.alive, True)
        self.assertEqual((live.events, len(live)), ((), 0))

    def test_each_kind_of_event(self):
        shown = board()
        live = Live(shown)
        done = []
        expected = [
            ("1", ("pay", "bye")), ("-", ("bye",)), ("1", ("bye",)), ("-1", ()),
        ]
        for event, stack in expected:
            told_stack = live.do(event)
            self.assertEqual(told_stack, stack, event)
            self.assertIs(type(told_stack), tuple)
            done.append(event)
            self.assert_live(live, shown, done, len(done))
        self.assertEqual(live.played.end, "out")

    def test_late_digits_and_several_digits(self):
        for events, stacks in (
            (["-1", "-1"], [("pay", "bye"), ("bye",)]), (["12", "11111"], [("bye",), ("bye",)]),
            (["55", "-3"], [("top",), ()]), (["29", "-"], [("ask",), ()]), (["1113", "9"], [(), None]),
        ):
            live = Live(board())
            for event, stack in zip(events, stacks):
                if stack is None:
                    self.assert_wrong(live, event)
                else:
                    self.assertEqual(live.do(event), stack, event)
                    self.assert_live(live, live.board, live.events, len(live))

    def test_the_end(self):
        live = Live(board())
        self.assertEqual(live.do("3"), ())
        self.assertEqual((live.played.end, live.played.presses, live.alive, len(live)), ("desk", 1, False, 1))
        self.assert_live(live, live.board, ["3"], 1)

    def test_what_is_no_event(self):
        live = Live(board())
        for event in wrong_events():
            self.assert_wrong(live, event)
        live.do("5")
        live.do("1")
        for event in wrong_events():
            self.assert_wrong(live, event)
        self.assertEqual(live.events, ("5", "1"))

    def test_each_event_behind_the_end(self):
        live = Live(board())
        live.several(["5", "3"])
        for event in ["1", "-", "-3", "123", *wrong_events()]:
            self.assert_wrong(live, event)
        self.assertEqual(live.played.end, "desk")

    def test_the_number_is_that_of_events_so_far(self):
        live = Live(board())
        live.several(["5", "1", "-"])
        live.do("1")
        live.undo()
        live.several([])
        with self.assertRaises(InvalidEvent) as error:
            live.do("x")
        self.assertEqual(error.exception.at, 3)
        live.undo()
        live.undo()
        with self.assertRaises(InvalidEvent) as error:
            live.do("x")
        self.assertEqual(error.exception.at, 0)


class Several(LiveCase):
    def test_lists_and_tuples(self):
        for events in (["1", "-", "1"], ("1", "-", "1")):
            live = Live(board())
            told_stacks = live.several(events)
            self.assertEqual(told_stacks, (("pay", "bye"), ("bye",), ("bye",)))
            self.assertIs(type(told_stacks), tuple)
            self.assertEqual([type(stack) for stack in told_stacks], [tuple] * 3)
            self.assert_live(live, live.board, events, 1)
            self.assertEqual(events, type(events)(["1", "-", "1"]))

    def test_each_returns_what_do_returns(self):
        events = ["55", "-1", "2", "9"]
        one, other = Live(board()), Live(board())
        self.assertEqual(one.several(events), tuple([other.do(event) for event in events]))

    def test_no_events(self):
        for events in ([], ()):
            live = Live(board())
            self.assertEqual(live.several(events), ())
            self.assert_live(live, live.board, [], 1)
            live.do("3")
            self.assertEqual(live.several(events), ())
            self.assert_live(live, live.board, ["3"], 3)

    def test_up_to_the_end(self):
        live = Live(board())
        self.assertEqual(live.several(["1", "1"]), (("pay", "bye"), ()))
        self.assert_live(live, live.board, ["1", "1"], 1)

    def test_a_wrong_one_at_each_place(self):
        right = ["1", "-", "1", "2"]
        for value in wrong_events():
            for at in range(4):
                live = Live(board())
                self.assert_refused(live, at, at, [*right[:at], value, *right[at:]])
                live.several(["5", "1"])
                live.do("-")
                self.assert_refused(live, at, at + 3, (*["1", "1", "1"][:at], value, "x"))

    def test_the_first_of_several_wrong_ones(self):
        self.assert_refused(Live(board()), 1, 1, ["1", None, "x", 5])
        self.assert_refused(Live(board()), 0, 0, [[], "1", "x"])

    def test_going_on_behind_the_end(self):
        for event in ("1", "-", "-3", "x", None):
            live = Live(board())
            self.assert_refused(live, 1, 1, ["3", event])
            live.do("5")
            self.assert_refused(live, 2, 3, ["1", "1", event])
            live.do("3")
            self.assert_refused(live, 0, 2, [event])
            self.assert_refused(live, 0, 2, (event, "1"))

    def test_what_is_no_sequence(self):
        values = NO_SEQUENCES + [value for value in any_values() if not isinstance(value, (list, tuple))]
        live = Live(board())
        for value in values:
            self.assert_refused(live, 0, 0, value)
        live.do("5")
        live.several(["1", "-"])
        for value in values:
            self.assert_refused(live, 0, 3, value)
        live.several(["9"])
        for value in values:
            self.assert_refused(live, 0, 4, value)

    def test_later_changes_of_the_list(self):
        events = ["1", "-"]
        live = Live(board())
        live.several(events)
        events.append("9")
        events[0] = "3"
        self.assert_live(live, live.board, ["1", "-"], 1)


class Undo(LiveCase):
    def test_nothing_to_take_back(self):
        live = Live(board())
        self.assertIs(live.undo(), False)
        self.assert_live(live, live.board, [], 0)
        live.do("1")
        self.assertIs(live.undo(), True)
        self.assertIs(live.undo(), False)
        self.assert_live(live, live.board, [], 0)

    def test_single_events_several_and_none(self):
        live = Live(board())
        live.do("5")
        live.several(["1", "-", "1"])
        live.several([])
        live.do("9")
        expected = [(["5", "1", "-", "1"], 3), (["5", "1", "-", "1"], 2), (["5"], 1), ([], 0)]
        for events, many in expected:
            self.assertIs(live.undo(), True)
            self.assert_live(live, live.board, events, many)
        self.assertIs(live.undo(), False)

    def test_the_end_is_taken_back(self):
        live = Live(board())
        live.do("5")
        live.do("3")
        self.assertIs(live.alive, False)
        self.assertIs(live.undo(), True)
        self.assert_live(live, live.board, ["5"], 1)
        self.assertEqual((live.played.stack, live.played.tries, live.played.end), (("top",), 1, None))
        self.assertEqual(live.do("1"), ("pay", "bye"))
        self.assert_live(live, live.board, ["5", "1"], 2)

    def test_what_was_refused_is_not_there_to_take_back(self):
        live = Live(board())
        live.do("5")
        self.assertRaises(Refused, live.several, ["1", "x"])
        self.assertRaises(InvalidEvent, live.do, "x")
        self.assertIs(live.undo(), True)
        self.assert_live(live, live.board, [], 0)
        self.assertIs(live.undo(), False)


class Alive(LiveCase):
    def test_caught(self):
        live = Live(board())
        self.assertIs(live.alive, True)
        live.do("1")
        self.assertIs(live.alive, True)
        live.do("2")
        self.assertIs(live.alive, False)
        live.undo()
        self.assertIs(live.alive, True)
        live.several(["1"])
        self.assertEqual((live.played.end, live.alive), ("cash", False))

    def test_by_what_is_due(self):
        shown = read(
            "menu a tries 1\n1 call b c\n2 call b d\nelse out", "menu b tries 1\n1 back\n2 call b b\nelse again",
            "menu c tries 1\nelse again", "menu d tries 1\n1 line x\nelse out",
        )
        for events, alive in ((["1"], False), (["2"], True), (["12"], False), (["22"], True), (["221"], True),
                              (["2211"], True), (["22111"], False)):
            live = Live(shown)
            live.several(events)
            self.assertIs(live.alive, alive, events)
            self.assert_live(live, shown, events, 1)

    def test_a_line_further_beneath(self):
        shown = read(
            "menu a tries 1\n1 call b d\nelse out", "menu b tries 1\n1 call c e\nelse out", "menu c tries 1\nelse back",
            "menu d tries 1\n1 line x\nelse out", "menu e tries 2\n1 again\nelse back",
        )
        live = Live(shown)
        live.do("11")
        self.assertEqual((live.played.stack, live.alive), (("c", "e", "d"), True))
        homeless = Live(Board.read(str(shown).replace("1 again\nelse back", "1 again\nelse out")))
        homeless.do("11")
        self.assertEqual((homeless.played.stack, homeless.alive), (("c", "e", "d"), False))

    def test_by_silence_with_tries_used_up(self):
        live = Live(read("menu a tries 3\n1 out\nelse line x"))
        live.do("22")
        self.assertEqual((live.played.tries, live.alive), (1, True))
        self.assertEqual((live.do("-"), live.played.end, live.alive), ((), "x", False))

    def test_boards_without_lines(self):
        live = Live(read("menu a tries 1\n1 again\nelse out"))
        self.assertIs(live.alive, False)
        live.do("1")
        self.assertIs(live.alive, False)


class Within(LiveCase):
    def setUp(self):
        self.shown = board()
        self.live = Live(self.shown)
        self.live.do("5")
        self.live.several(["1", "-"])

    def assert_as_it_was(self):
        self.assert_live(self.live, self.shown, ["5", "1", "-"], 2)

    def test_what_the_work_returns(self):
        for value in (None, 5, "text", [1], self.live):
            self.assertIs(self.live.within(lambda live: value), value)
            self.assert_as_it_was()

    def test_the_work_gets_the_live_call(self):
        self.assertIs(self.live.within(lambda live: live), self.live)

    def test_work_that_does(self):
        def work(live):
            stack = live.do("1")
            live.several(["1", "9"])
            self.assert_live(live, self.shown, ["5", "1", "-", "1", "1", "9"], 4)
            return stack, live.played.end, live.alive

        self.assertEqual(self.live.within(work), (("bye",), "out", False))
        self.assert_as_it_was()

    def test_work_that_takes_back(self):
        def work(live):
            found = [live.undo(), live.undo(), live.undo(), live.undo()]
            self.assert_live(live, self.shown, [], 0)
            live.do("3")
            self.assert_live(live, self.shown, ["3"], 1)
            return found

        self.assertEqual(self.live.within(work), [True, True, False, False])
        self.assert_as_it_was()
        self.assertIs(self.live.undo(), True)
        self.assert_live(self.live, self.shown, ["5"], 1)
        self.assertIs(self.live.undo(), True)
        self.assertIs(self.live.undo(), False)

    def test_work_that_takes_back_and_does_otherwise(self):
        def work(live):
            live.undo()
            live.do("3")
            live.several([])
            return live.events, len(live)

        self.assertEqual(self.live.within(work), (("5", "3"), 3))
        self.assert_as_it_was()
        self.assertEqual(self.live.do("9"), ())
        self.assertEqual(self.live.events, ("5", "1", "-", "9"))
        self.live.undo()
        self.live.undo()
        self.assert_live(self.live, self.shown, ["5"], 1)

    def test_work_within_work(self):
        def inner(live):
            live.undo()
            live.undo()
            live.several(["3"])
            return live.events

        def outer(live):
            live.do("1")
            told_inner = live.within(inner)
            self.assert_live(live, self.shown, ["5", "1", "-", "1"], 3)
            live.undo()
            live.undo()
            return told_inner, live.events, live.within(lambda again: again.do("3")), live.events

        self.assertEqual(self.live.within(outer), (("5", "3"), ("5",), (), ("5",)))
        self.assert_as_it_was()

    def test_work_that_is_refused(self):
        def work(live):
            self.assertRaises(InvalidEvent, live.do, "x")
            self.assertRaises(Refused, live.several, ["1", "x"])
            live.do("1")
            live.several(["1", "x"])

        with self.assertRaises(Refused) as error:
            self.live.within(work)
        self.assertEqual((error.exception.at, error.exception.__cause__.at), (1, 5))
        self.assert_as_it_was()
        with self.assertRaises(InvalidEvent) as error:
            self.live.within(lambda live: (live.do("1"), live.do("9"), live.do("1")))
        self.assertEqual(error.exception.at, 5)
        self.assert_as_it_was()

    def test_an_error_goes_on(self):
        class Special(BaseException):
            pass

        for error in (ValueError("x"), KeyError(3), Special(), KeyboardInterrupt(), StopIteration(1)):
            def work(live):
                live.undo()
                live.do("3")
                raise error

            with self.assertRaises(type(error)) as raised:
                self.live.within(work)
            self.assertIs(raised.exception, error)
            self.assert_as_it_was()

    def test_an_error_in_work_within_work(self):
        def outer(live):
            live.do("1")
            try:
                live.within(lambda again: (again.undo(), again.undo(), 1 // 0))
            except ZeroDivisionError:
                return live.events, len(live)

        self.assertEqual(self.live.within(outer), (("5", "1", "-", "1"), 3))
        self.assert_as_it_was()

    def test_a_call_that_is_over(self):
        self.live.do("9")
        self.assertEqual(self.live.within(lambda live: (live.undo(), live.do("1"))), (True, ("bye",)))
        self.assertEqual((self.live.played.end, self.live.events, len(self.live)), ("out", ("5", "1", "-", "9"), 3))
        # And the other way round: it is over within the work alone.
        self.live.undo()
        self.assertEqual(self.live.within(lambda live: (live.do("9"), live.played.end)), ((), "out"))
        self.assert_as_it_was()

    def test_at_the_beginning(self):
        live = Live(self.shown)
        self.assertEqual(live.within(lambda again: (again.undo(), again.several([]), again.undo())), (False, (), True))
        self.assert_live(live, self.shown, [], 0)
        live.within(lambda again: again.do("3"))
        self.assertIs(live.undo(), False)

    def test_an_object_that_is_called(self):
        class Work:
            def __call__(self, live):
                return live.do("9")

            def method(self, live):
                return live.do("1")

        self.assertEqual(self.live.within(Work()), ())
        self.assertEqual(self.live.within(Work().method), ("bye",))
        self.assertIs(self.live.within(Live.undo), True)
        self.assertEqual(self.live.within(len), 2)
        self.assert_as_it_was()


class Apart(LiveCase):
    def test_live_calls_do_not_touch_each_other(self):
        shown = board()
        one, other = Live(shown), Live(shown)
        one.do("1")
        self.assert_live(other, shown, [], 0)
        other.several(["3"])
        self.assert_live(one, shown, ["1"], 1)
        one.within(lambda live: other.undo())
        self.assert_live(other, shown, [], 0)

    def test_what_was_told_stays(self):
        live = Live(board())
        events, played = live.events, live.played
        live.several(["5", "1"])
        self.assertEqual((events, told(played)), ((), (("top",), 2, None, 0, ("top",))))
        later = live.played
        live.do("-")
        live.undo()
        live.undo()
        self.assertEqual(told(later), told(play(board(), ["5", "1"])))

    def test_properties_are_read_alone(self):
        live = Live(board())
        for name in ("board", "events", "played", "alive"):
            self.assertIsInstance(vars(Live)[name], property)
            with self.assertRaises(AttributeError):
                setattr(live, name, None)

    def test_not_iterable(self):
        live = Live(board())
        live.do("1")
        self.assertRaises(TypeError, iter, live)
        self.assertRaises(TypeError, list, live)
        self.assertEqual((live == Live(live.board), live == live), (False, True))


class Comparing(LiveCase):
    """Live calls that go forth and back, beside a list of what was done, play and the model of a call."""

    def model_told(self, shown, events):
        menus = {menu.name: (dict(menu.rows), menu.tail, menu.tries, menu.clears) for menu in shown.menus}
        model = Model(menus)
        for event in events:
            model.do(event)
        return model.told()

    def check(self, live, shown, done):
        events = [event for group in done for event in group]
        self.assert_live(live, shown, events, len(done))
        self.assertEqual(told(live.played), self.model_told(shown, events))

    def step(self, chance, live, shown, done, depth):
        """Do something with a live call, and the same with a list of groups of events."""
        choice = chance.choice(["do", "do", "several", "undo", "within", "wrong"])
        over = live.played.end is not None
        so_far = len(live.events)
        if choice == "do" and not over:
            event = some_event(chance)
            self.assertEqual(live.do(event), play(shown, [*live.events[:-1], event]).stack)
            done.append([event])
        elif choice == "several":
            self.do_several(chance, live, shown, done)
        elif choice == "undo":
            self.assertIs(live.undo(), len(done) > 0)
            del done[-1:]
        elif choice == "within" and depth < 3:
            self.assertEqual(live.within(lambda again: self.work(chance, again, shown, done, depth)), "worked")
        elif choice == "wrong" or over:
            with self.assertRaises(InvalidEvent) as error:
                live.do("1" if over else chance.choice(NO_EVENTS))
            self.assertEqual(error.exception.at, so_far)
        self.check(live, shown, done)

    def work(self, chance, live, shown, done, depth):
        copy = [list(group) for group in done]
        for _ in range(chance.randint(0, 5)):
            self.step(chance, live, shown, copy, depth + 1)
        return "worked"

    def do_several(self, chance, live, shown, done):
        events = [some_event(chance) for _ in range(chance.randint(0, 3))]
        if chance.random() < 0.2:
            events.insert(chance.randint(0, len(events)), None)
        so_far = len(live.events)
        try:
            play(shown, [*live.events, *events])
        except InvalidEvent as wrong:
            with self.assertRaises(Refused) as error:
                live.several(events)
            self.assertEqual((error.exception.at, error.exception.__cause__.at), (wrong.at - so_far, wrong.at))
        else:
            whole = [*live.events, *events]
            stacks = [play(shown, whole[:so_far + at + 1]).stack for at in range(len(events))]
            self.assertEqual(live.several(events), tuple(stacks))
            done.append(events)

    def test_forth_and_back(self):
        chance = random.Random(41)
        for _ in range(150):
            shown = some_board(chance, chance.randint(1, 6), 5)
            live = Live(shown)
            done = []
            for _ in range(25):
                self.step(chance, live, shown, done, 0)

    def test_alive(self):
        chance = random.Random(42)
        found = [0, 0]
        for _ in range(300):
            shown = some_board(chance, chance.randint(1, 4), 3)
            walk = Walk(shown, 7)
            live = Live(shown)
            for _ in range(6):
                if live.played.end is not None or len(live.played.stack) > 3:
                    break
                state = live.played.stack, live.played.tries
                alive = walk.search(state, walk.lines, "-", lambda *at: True) is not None
                self.assertIs(live.alive, alive, (live.events, str(shown)))
                found[alive] += 1
                live.do(some_event(chance))
        self.assertGreater(min(found), 100)


if __name__ == "__main__":
    unittest.main()
