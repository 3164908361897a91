"""The interface: its names, arguments and places; and what [1] to [3] say of everything."""

import ast
import inspect
import pathlib
import random
import time
import unittest

import menuhome
import menuhome.boards
import menuhome.calls
import menuhome.comparing
import menuhome.deciding
import menuhome.desk
import menuhome.errors
import menuhome.hearts
import menuhome.late
import menuhome.live
import menuhome.mending
import menuhome.menus
import menuhome.papers
from chances import full_board, some_board, some_event, twin_board
from menuhome.boards import Board
from menuhome.calls import Played, play
from menuhome.comparing import alike, heaps, merged
from menuhome.deciding import beneath, caught, comes, fewest, never, silence, way
from menuhome.desk import Desk
from menuhome.errors import InvalidCommand, InvalidEvent, InvalidGoal, InvalidMenu, InvalidStack, NoMenu, Refused
from menuhome.hearts import by_heart, hearts
from menuhome.late import astray
from menuhome.live import Live
from menuhome.mending import mends, needless
from menuhome.menus import Menu
from menuhome.papers import paper, paper_holds
from samples import LINES, board, read

CLASSES = {
    menuhome.errors: {
        "MenuError": (None, []),
        "InvalidMenu": (["word"], []),
        "InvalidBoard": (["word"], []),
        "InvalidText": (["at"], []),
        "InvalidEvent": (["at"], []),
        "InvalidStack": (["at"], []),
        "InvalidGoal": (None, []),
        "InvalidCommand": (None, []),
        "Refused": (["at"], []),
        "NoMenu": (["name"], []),
    },
    menuhome.menus: {
        "Menu": (["name", "rows", "tail", "tries", "clears"], ["action", "read", "__eq__", "__str__"]),
    },
    menuhome.boards: {
        "Board": (["menus"], ["menu", "having", "read", "__len__", "__eq__", "__str__"]),
    },
    menuhome.calls: {
        "Played": (None, []),
    },
    menuhome.live: {
        "Live": (["board"], ["board", "events", "played", "alive", "do", "several", "undo", "within", "__len__"]),
    },
    menuhome.desk: {
        "Desk": ([], ["say"]),
    },
}

FUNCTIONS = {
    menuhome.calls: {"play": ["board", "events"]},
    menuhome.deciding: {
        "fewest": ["board", "stack", "goal"],
        "way": ["board", "goal"],
        "never": ["board"],
        "comes": ["board"],
        "caught": ["board"],
        "beneath": ["board", "name"],
        "silence": ["board", "stack"],
    },
    menuhome.late: {"astray": ["board"]},
    menuhome.hearts: {"by_heart": ["board", "goal"], "hearts": ["board"]},
    menuhome.papers: {"paper": ["board", "goal"], "paper_holds": ["board", "goal", "least", "value"]},
    menuhome.mending: {"mends": ["board"], "needless": ["board"]},
    menuhome.comparing: {"alike": ["board", "one", "other"], "heaps": ["board"], "merged": ["board"]},
}


def decided(shown):
    """All that is decided about a board: pairs of what is asked and what is told."""
    asked = [(never, ()), (comes, ()), (caught, ()), (astray, ()), (hearts, ())]
    asked += [(mends, ()), (needless, ()), (heaps, ()), (merged, ())]
    asked += [(alike, (one, other)) for one in shown.names for other in shown.names]
    asked += [(beneath, (name,)) for name in shown.names]
    stacks = [shown.names, shown.names[::-1]] + [[name] for name in shown.names]
    asked += [(silence, (stack,)) for stack in stacks]
    asked += [(fewest, (stack, goal)) for stack in stacks for goal in (*shown.lines, "back")]
    for line in shown.lines:
        asked += [(way, (line,)), (by_heart, (line,)), (paper, (line,))]
        asked += [(paper_holds, (line, 2, paper(shown, line)))]
    return [(function, arguments, function(shown, *arguments)) for function, arguments in asked]


def parameters(function):
    return list(inspect.signature(function).parameters)


class Interface(unittest.TestCase):
    def test_classes_stand_in_their_files(self):
        for module, classes in CLASSES.items():
            for name, (arguments, methods) in classes.items():
                kind = getattr(module, name)
                self.assertTrue(inspect.isclass(kind))
                self.assertEqual(kind.__module__, module.__name__)
                if arguments is not None:
                    self.assertEqual(parameters(kind), arguments)
                for method in methods:
                    self.assertIn(method, vars(kind))

    def test_arguments_of_methods(self):
        self.assertEqual(parameters(Menu.action), ["self", "digit"])
        self.assertEqual(parameters(Menu.read), ["text"])
        self.assertEqual(parameters(Board.menu), ["self", "name"])
        self.assertEqual(parameters(Board.having), ["self", "name", "digit", "action"])
        self.assertEqual(parameters(Board.read), ["text"])
        self.assertIsInstance(vars(Menu)["read"], classmethod)
        self.assertIsInstance(vars(Board)["read"], classmethod)
        self.assertEqual(parameters(Live.do), ["self", "event"])
        self.assertEqual(parameters(Live.several), ["self", "events"])
        self.assertEqual(parameters(Live.undo), ["self"])
        self.assertEqual(parameters(Live.within), ["self", "work"])
        self.assertEqual(parameters(Desk.say), ["self", "command"])
        for name in ("board", "events", "played", "alive"):
            self.assertIsInstance(vars(Live)[name], property)

    def test_functions_stand_in_their_files(self):
        for module, functions in FUNCTIONS.items():
            for name, arguments in functions.items():
                function = getattr(module, name)
                self.assertTrue(inspect.isfunction(function))
                self.assertEqual(function.__module__, module.__name__)
                self.assertEqual(parameters(function), arguments)

    def test_defaults(self):
        menu = Menu("top", [], "out")
        self.assertEqual(menu.tries, 1)
        self.assertIs(menu.clears, False)

    def test_package_file_is_empty_but_for_a_docstring(self):
        path = pathlib.Path(menuhome.__file__)
        body = ast.parse(path.read_text(encoding="utf-8")).body
        self.assertEqual(len(body), 1)
        self.assertIsInstance(body[0].value.value, str)


class Basics(unittest.TestCase):
    def test_arguments_by_name(self):
        menu = Menu(name="top", rows=[("1", "out")], tail="again", tries=2, clears=True)
        self.assertEqual(menu, Menu("top", [("1", "out")], "again", 2, True))
        self.assertEqual(Menu(clears=True, tries=2, tail="again", rows=[("1", "out")], name="top"), menu)
        self.assertEqual(menu.action(digit="1"), "out")
        self.assertEqual(Menu.read(text=str(menu)), menu)
        self.assertEqual(Board(menus=[menu]), Board([menu]))
        self.assertEqual(Board.read(text=str(menu)), Board([menu]))
        self.assertEqual(Board([menu]).menu(name="top"), menu)
        self.assertEqual(
            Board([menu]).having(name="top", digit="2", action="out"), Board([menu]).having("top", "2", "out")
        )
        self.assertEqual(play(board=board(), events=["3"]).end, "desk")

    def test_arguments_by_name_of_what_is_decided(self):
        shown = board()
        self.assertEqual(fewest(board=shown, stack=["top"], goal="desk"), 1)
        self.assertEqual(way(goal="desk", board=shown), ("3",))
        self.assertEqual((never(board=shown), comes(board=shown)), ((), ("ask", "bye", "pay", "top")))
        self.assertEqual((caught(board=shown), beneath(name="pay", board=shown)), (("ask", "bye"), ("bye",)))
        self.assertEqual((silence(stack=["top"], board=shown), astray(board=shown)), ("round", (("pay", "1", "bye"),)))
        self.assertEqual((by_heart(goal="cash", board=shown), hearts(board=shown)), ("11", ("cash", "desk")))
        told = paper(goal="cash", board=shown)
        self.assertTrue(paper_holds(value=told, least=2, goal="cash", board=shown))
        self.assertEqual((mends(board=shown), len(needless(board=shown))), ((), 5))
        self.assertEqual((heaps(board=shown), merged(board=shown)), ((("top",), ("pay",), ("ask",), ("bye",)), shown))
        self.assertIs(alike(other="pay", one="top", board=shown), False)
        with self.assertRaises(NoMenu) as error:
            alike(other="x", board=shown, one="y")
        self.assertEqual(error.exception.name, "y")

    def test_arguments_by_name_in_another_order(self):
        shown = board()
        self.assertEqual(play(events=["1"], board=shown).stack, ("pay", "bye"))
        self.assertEqual(fewest(goal="back", stack=("pay", "bye"), board=shown), 1)
        self.assertEqual(shown.having(action="out", digit="7", name="pay"), shown.having("pay", "7", "out"))
        self.assertEqual(Menu(tail="out", name="top", rows=()), Menu("top", (), "out"))
        self.assertEqual(Menu("top", clears=True, tail="out", rows=[]), Menu("top", [], "out", 1, True))

    def test_arguments_by_name_of_errors(self):
        for name, (arguments, _) in CLASSES[menuhome.errors].items():
            error = getattr(menuhome.errors, name)(**{word: [name] for word in arguments or []})
            self.assertEqual(vars(error), {word: [name] for word in arguments or []})

    def test_arguments_by_name_of_what_changes(self):
        live = Live(board=board())
        self.assertEqual(live.do(event="1"), ("pay", "bye"))
        self.assertEqual(live.several(events=["-", "1"]), (("bye",), ("bye",)))
        self.assertEqual(live.within(work=lambda again: again.do(event="9")), ())
        self.assertEqual((live.undo(), len(live), live.events), (True, 1, ("1",)))
        desk = Desk()
        self.assertEqual(desk.say(command="board menu a tries 1 ; else out"), "1")
        self.assertEqual(desk.say(command="presses"), "0")

    def test_nothing_is_iterable(self):
        top = board().menu("top")
        for value in (top, board(), play(board(), []), InvalidMenu("rows"), NoMenu("top"), Live(board()), Desk()):
            with self.assertRaises(TypeError):
                iter(value)
            with self.assertRaises(TypeError):
                list(value)
        with self.assertRaises(TypeError):
            "top" in board()

    def test_what_is_returned_in_order_is_a_tuple(self):
        shown = board()
        played = play(shown, ["1"])
        top = shown.menu("top")
        for value in (shown.menus, shown.names, shown.lines, top.rows, top.rows[0], played.stack, played.started):
            self.assertIs(type(value), tuple)
        self.assertIs(type(play(shown, ["3"]).stack), tuple)

    def test_the_same_call_returns_the_same(self):
        shown = board()
        first = vars(play(shown, ["1", "-1"]))
        play(shown, ["3"])
        shown.having("top", "3", "out")
        Board.read("\n".join(LINES))
        self.assertEqual(vars(play(shown, ["1", "-1"])), first)
        self.assertEqual(shown, board())

    def test_what_is_decided_in_order_is_a_tuple(self):
        for shown in (board(), read("menu a tries 1\nelse out")):
            for value in (never(shown), comes(shown), caught(shown), astray(shown), hearts(shown), mends(shown),
                          needless(shown)):
                self.assertIs(type(value), tuple)
                self.assertEqual(list(value), sorted(value))
            for name in shown.names:
                self.assertIs(type(beneath(shown, name)), tuple)
        self.assertIs(type(astray(board())[0]), tuple)

    def test_what_is_decided_stays_the_same(self):
        chance = random.Random(51)
        boards = [board()] + [some_board(chance, 4, 4) for _ in range(8)] + [twin_board(chance, 2, 2, 3)]
        texts = [str(shown) for shown in boards]
        first = [decided(shown) for shown in boards]
        for shown in reversed(boards):
            for wrong, call in [
                (InvalidGoal, lambda: way(shown, "back")), (InvalidStack, lambda: silence(shown, [])),
                (NoMenu, lambda: beneath(shown, "zzzz")), (InvalidEvent, lambda: play(shown, ["x"])),
                (NoMenu, lambda: alike(shown, "zzzz", 5)), (Refused, lambda: Live(shown).several(["1", "x"])),
                (InvalidCommand, lambda: Desk().say("undo")),
            ]:
                self.assertRaises(wrong, call)
            decided(shown.having(shown.names[-1], "5", "main"))
        self.assertEqual([decided(shown) for shown in boards], first)
        # A board with the same text, made anew, is told the same of.
        self.assertEqual([decided(Board.read(text)) for text in texts], first)
        self.assertEqual([str(shown) for shown in boards], texts)

    def test_live_calls_and_desks_stay_the_same_while_nothing_is_done(self):
        chance = random.Random(53)
        for _ in range(20):
            shown = some_board(chance, 4, 4)
            live, desk = Live(shown), Desk()
            desk.say("board " + str(shown).replace("\n", " ; "))
            for _ in range(3):
                if live.played.end is None:
                    event = some_event(chance)
                    live.do(event)
                    desk.say("do " + event)
            first = self.told(live, desk)
            live.within(lambda again: (again.several([]), again.undo(), again.undo(), again.undo()))
            self.assertRaises(Refused, live.several, [None])
            for command in ("do x", "fewest back", "board x", "again"):
                self.assertRaises(ValueError, desk.say, command)
            decided(shown)
            Desk().say("board menu a tries 1 ; else out")
            self.assertEqual(self.told(live, desk), first)

    def told(self, live, desk):
        """All that a live call and a desk tell without a change."""
        commands = ["presses", "silence", "caught", *[f"fewest {line}" for line in live.board.lines]]
        answers = [desk.say(command) for command in commands]
        return str(live.board), live.events, vars(live.played), live.alive, len(live), answers

    def test_what_was_returned_may_be_passed_on(self):
        chance = random.Random(54)
        for _ in range(40):
            shown = merged(twin_board(chance, 4, 2, 5))
            for line in shown.lines:
                for events in (way(shown, line), by_heart(shown, line)):
                    if events is not None:
                        self.pass_on(shown, (events,) if isinstance(events, str) else events, line)
            for row in needless(shown)[:2]:
                fewest(shown.having(*row, "main"), shown.names, "back")
            for row in mends(shown)[::9]:
                self.assertEqual(caught(shown.having(*row)), ())

    def pass_on(self, shown, events, line):
        live, desk = Live(shown), Desk()
        desk.say("board " + str(live.board).replace("\n", " ; "))
        for stack in live.several(events)[:-1]:
            silence(shown, stack)
            fewest(shown, stack, line)
        for event in live.events:
            answer = desk.say(f"do {event}")
        self.assertEqual((live.played.end, answer), (line, line))
        self.assertEqual(vars(play(shown, live.events)), vars(live.played))

    def test_arguments_stay_as_they_are(self):
        rows = [("9", "out"), ("1", "back")]
        menus = [Menu("top", rows, "out"), Menu("pay", (), "out")]
        events = ["1", "-"]
        shown = Board(menus)
        with self.assertRaises(ValueError):
            play(shown, events)
        self.assertEqual(rows, [("9", "out"), ("1", "back")])
        self.assertEqual([menu.name for menu in menus], ["top", "pay"])
        self.assertEqual(events, ["1", "-"])

    def test_beyond_the_limits(self):
        rows = [(str(digit), "line x") for digit in range(9)]
        menus = [Menu(name, rows, "again", 99) for name in "abcdefghij"]
        shown = Board(menus)
        self.assertEqual(Board.read(str(shown)), shown)
        self.assertEqual(len(shown), 10)
        self.assertEqual(play(shown, ["9" * 50]).presses, 50)
        self.assertEqual(play(shown, ["-"] * 200).tries, 97)
        deep = Board([Menu("a", [("1", "call a a")], "back")])
        self.assertEqual(play(deep, ["1"] * 40).stack, ("a",) * 41)
        self.assertEqual(play(deep, ["1" * 40 + "2" * 40]).stack, ("a",))

    def test_full_boards_take_no_time(self):
        chance = random.Random(52)
        for _ in range(15):
            shown = full_board(chance)
            self.assertEqual([(len(menu.rows), menu.tries) for menu in shown.menus], [(5, 3)] * 6)
            for function, arguments, told in decided(shown):
                begun = time.process_time()
                self.assertEqual(function(shown, *arguments), told)
                self.assertLess(time.process_time() - begun, 0.5, (function, arguments, str(shown)))

    def assert_no_time(self, function, *arguments):
        """What a call returns, which took well below a second."""
        begun = time.process_time()
        told = function(*arguments)
        self.assertLess(time.process_time() - begun, 0.5, (function, arguments))
        return told

    def long_calls(self):
        """Boards, and 60 events of 12 digits by which no call on them is over."""
        deeper = read("menu a tries 3\n1 call a b\n2 back\n3 line x\nelse again",
                      "menu b tries 3\n1 call a b\n2 back\nelse again")
        yield deeper, ["1" * 12] * 60
        yield deeper, ["1" * 12, "2" * 11 + "0"] * 30
        chance = random.Random(55)
        for _ in range(4):
            events = ["".join(chance.choice("12345") for _ in range(12)) for _ in range(60)]
            yield self.endless(full_board(chance)), events

    def endless(self, shown):
        """The board with main in the place of all by which a call is over."""
        text = str(shown).replace("line x", "main").replace("line y", "again").replace(" out", " main")
        return Board.read(text.replace(" back", " go a"))

    def test_long_live_calls_take_no_time(self):
        for shown, events in self.long_calls():
            played = self.assert_no_time(play, shown, events)
            self.assertIsNone(played.end)
            live = self.assert_no_time(Live, shown)
            for event in events:
                self.assert_no_time(live.do, event)
            self.assertEqual((live.events, vars(live.played), len(live)), (tuple(events), vars(played), 60))
            for left in range(60, 0, -1):
                self.assertEqual(len(live), left)
                self.assertIs(self.assert_no_time(live.undo), True)
            self.assertIs(live.undo(), False)
            stacks = self.assert_no_time(live.several, events)
            self.assertEqual((len(stacks), stacks[-1]), (60, played.stack))
            self.assert_no_time(live.within, lambda again: (again.undo(), again.several(events), again.alive))
            self.assertEqual((live.events, len(live)), (tuple(events), 1))

    def test_long_calls_at_a_desk_take_no_time(self):
        for shown, events in self.long_calls():
            desk = Desk()
            self.assert_no_time(desk.say, "board " + str(shown).replace("\n", " ; "))
            for at, event in enumerate(events):
                answer = self.assert_no_time(desk.say, f"do {event}")
                for command in ("presses", "silence", "caught"):
                    self.assert_no_time(desk.say, command)
                if at % 20 == 0:
                    self.assertEqual(answer, " ".join(play(shown, events[:at + 1]).stack))
            for _ in events:
                self.assertEqual(self.assert_no_time(desk.say, "undo"), "undone")
            self.assertEqual((desk.say("undo"), desk.say("presses")), ("nothing", "0"))

    def test_many_lines_take_no_time(self):
        chance = random.Random(56)
        for _ in range(10):
            lines = iter([one + other for one in "xyz" for other in "abcdefghijkl"])
            menus = []
            for name, behind in zip("abcdef", "bcdeff"):
                rows = [("1", f"call {behind} a"), ("2", f"go {behind}")]
                rows += [(digit, f"line {next(lines)}") for digit in "345"]
                menus.append(Menu(name, rows, chance.choice(["back", "again", "main", "out"]), 3))
            shown = Board(menus)
            self.assertEqual(len(shown.lines), 18)
            self.assertEqual(needless(shown), self.assert_no_time(needless, shown))
            self.assertEqual(mends(shown), self.assert_no_time(mends, shown))

    def test_calls_within_calls_take_no_time(self):
        names = "abcdef"
        rows = "".join(f"\n{digit} call {{0}} {{0}}" for digit in range(1, 6))
        menus = [f"menu {one} tries 3{rows.format(two)}\nelse call {two} {two}" for one, two in zip(names, names[1:])]
        shown = read(*menus, "menu f tries 3\n1 line x\n2 line y\n3 out\n4 main\n5 again\nelse back")
        begun = time.process_time()
        told = decided(shown)
        self.assertLess((time.process_time() - begun) / len(told), 0.1)
        self.assertEqual(fewest(shown, list(names), "back"), 0)
        self.assertEqual(fewest(shown, list(names), "y"), 1)

    def test_deciding_beyond_the_limits(self):
        names = "abcdefghij"
        rows = "\n".join(f"{digit} call {{0}} {{0}}" for digit in range(9))
        menus = [f"menu {one} tries 9\n{rows.format(two)}\nelse again" for one, two in zip(names, names[1:])]
        shown = read(*menus, "menu j tries 9\n1 line x\nelse back")
        self.assertEqual(fewest(shown, ["a"], "back"), 2 ** 9 - 1)
        self.assertEqual(fewest(shown, ["a"] * 40 + ["j"] * 40, "x"), 10)
        self.assertEqual((comes(shown), caught(shown), hearts(shown)), (tuple(names), (), ("x",)))
        self.assertEqual(play(shown, way(shown, "x")).end, "x")
        self.assertEqual(silence(shown, list("j" * 30 + "a")), "round")
        self.assertTrue(paper_holds(shown, "x", 10, paper(shown, "x")))


if __name__ == "__main__":
    unittest.main()
