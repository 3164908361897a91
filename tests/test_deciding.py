"""What is decided for all callers: [10] to [13]."""

import unittest

from menuhome.calls import play
from menuhome.deciding import beneath, caught, comes, fewest, never, silence, way
from menuhome.errors import InvalidGoal, InvalidStack, NoMenu
from menuhome.menus import Menu
from samples import any_values, board, read


class DecidingCase(unittest.TestCase):
    def assert_fewest(self, shown, goal, **expected):
        """The fewest presses from each of these menus, with nothing due beneath it."""
        for name, least in expected.items():
            self.assertEqual(fewest(shown, [name], goal), least, (name, goal))

    def assert_stack(self, at, function, shown, stack, *goal):
        with self.assertRaises(InvalidStack) as caught_error:
            function(shown, stack, *goal)
        self.assertEqual(caught_error.exception.at, at, stack)

    def assert_way(self, shown, line, presses):
        """A way ends at its line by its last event, with so many presses."""
        events = way(shown, line)
        self.assertIs(type(events), tuple)
        for event in events:
            self.assertIn(event, list("0123456789-"))
        # None of the events comes behind the end of the call: play would raise InvalidEvent then.
        played = play(shown, events)
        self.assertEqual((played.end, played.presses), (line, presses), events)
        self.assertEqual(fewest(shown, shown.names[:1], line), presses)


class Fewest(DecidingCase):
    def test_single_menus(self):
        self.assert_fewest(board(), "cash", top=2, pay=1, ask=None, bye=None)
        self.assert_fewest(board(), "desk", top=1, pay=None, ask=None, bye=None)
        self.assert_fewest(board(), "back", top=2, pay=0, ask=None, bye=1)

    def test_stacks(self):
        expected = {
            ("pay", "top"): (1, 1, 2), ("pay", "pay", "bye"): (1, None, 1), ("bye", "top"): (3, 2, 3),
            ("ask", "top"): (None, None, None), ("top", "pay"): (2, 1, 2), ("bye", "bye", "pay"): (3, None, 2),
            ("bye", "ask", "top"): (None, None, None), ("pay", "bye", "top", "top", "ask", "top"): (1, 2, None),
            ("top", "top"): (2, 1, 4), ("pay",) * 6: (1, None, 0), ("bye",) * 6: (None, None, 6),
        }
        for stack, (cash, desk, back) in expected.items():
            for passed in (stack, list(stack)):
                told = fewest(board(), passed, "cash"), fewest(board(), passed, "desk"), fewest(board(), passed, "back")
                self.assertEqual(told, (cash, desk, back), stack)
                self.assertEqual(passed, type(passed)(stack))

    def test_silence_is_free_whatever_the_tries(self):
        shown = read("menu a tries 3\n1 go b\nelse go c", "menu b tries 3\nelse line x", "menu c tries 2\nelse back")
        self.assert_fewest(shown, "x", a=1, b=0, c=None)
        self.assert_fewest(shown, "back", a=0, b=None, c=0)
        self.assertEqual(fewest(shown, ["c", "c", "b"], "x"), 0)

    def test_a_menu_that_clears_costs_no_more(self):
        shown = read("menu a tries 1 clear\n1 go b\nelse out", "menu b tries 2 clear\n1 line x\nelse out")
        self.assert_fewest(shown, "x", a=2, b=1)

    def test_main_within_a_called_menu(self):
        shown = read(
            "menu a tries 1\n1 line x\n2 call b c\nelse out", "menu b tries 1\n1 main\nelse main",
            "menu c tries 1\n1 line y\nelse back",
        )
        self.assert_fewest(shown, "x", a=1, b=1, c=None)
        self.assert_fewest(shown, "y", a=None, b=None, c=1)
        self.assert_fewest(shown, "back", a=None, b=None, c=0)
        self.assertEqual(fewest(shown, ["b", "c"], "y"), None)
        self.assertEqual(fewest(shown, ["b", "c"], "x"), 1)
        self.assertEqual(fewest(shown, ["c", "b"], "back"), None)
        self.assertEqual(fewest(shown, ["c", "b"], "x"), 1)
        self.assertEqual(fewest(shown, ["c", "c"], "back"), 0)

    def test_main_does_not_come_home_where_the_main_menu_does(self):
        shown = read("menu a tries 1\n1 line x\nelse back", "menu b tries 1\n1 main\nelse out")
        self.assert_fewest(shown, "back", a=0, b=None)
        self.assert_fewest(shown, "x", a=1, b=2)
        self.assertEqual(fewest(shown, ["b", "a"], "back"), None)

    def test_menus_that_call_themselves(self):
        shown = read("menu a tries 1\n1 call a a\n2 line x\nelse out")
        self.assert_fewest(shown, "x", a=1)
        self.assert_fewest(shown, "back", a=None)
        shown = read("menu a tries 1\n1 call a a\n2 back\nelse call a a")
        self.assert_fewest(shown, "back", a=1)
        self.assertEqual(fewest(shown, ["a"] * 6, "back"), 6)
        shown = read("menu a tries 1\n1 call a b\nelse back", "menu b tries 1\n7 line x\nelse call a b")
        self.assert_fewest(shown, "x", a=2, b=1)
        self.assert_fewest(shown, "back", a=0, b=None)

    def test_menus_that_call_one_another(self):
        shown = read(
            "menu a tries 2\n1 call b c\nelse call c b", "menu b tries 1\n1 call a a\n2 call c a\nelse again",
            "menu c tries 1\n1 call a b\n5 back\nelse call b a", "menu d tries 1\n1 line x\nelse back",
        )
        self.assert_fewest(shown, "back", a=None, b=None, c=1, d=0)
        self.assert_fewest(shown, "x", a=None, b=None, c=None, d=1)
        self.assertEqual(fewest(shown, ["c", "d"], "x"), 2)

    def test_wrong_stacks(self):
        for value in any_values():
            if not isinstance(value, (list, tuple)) or len(value) == 0:
                self.assert_stack(0, fewest, board(), value, "cash")
        for value in ("top", "", {"top": 1}, {"top"}, iter(["top"])):
            self.assert_stack(0, fewest, board(), value, "cash")
        for value in any_values() + ["cash", "desk", "back", "out", "Top", "top ", "main", "tops", ["top"], ("top",)]:
            self.assert_stack(0, fewest, board(), [value], "cash")
            self.assert_stack(0, fewest, board(), (value, "top"), "back")
            self.assert_stack(1, fewest, board(), ["top", value, value], "desk")
            self.assert_stack(3, fewest, board(), ("ask", "bye", "top", value), "desk")

    def test_wrong_goals(self):
        wrong = any_values() + ["top", "pay", "out", "round", "line cash", "line", "Cash", "cash ", "main", "dask"]
        for value in wrong:
            with self.assertRaises(InvalidGoal):
                fewest(board(), ["top"], value)
            self.assert_stack(0, fewest, board(), [], value)
            self.assert_stack(1, fewest, board(), ["top", "cash"], value)

    def test_a_line_of_a_menu_that_nobody_reaches_is_a_goal(self):
        shown = read("menu a tries 1\nelse out", "menu b tries 1\n1 line x\nelse back")
        self.assert_fewest(shown, "x", a=None, b=1)

    def test_deep_stacks(self):
        shown = read("menu a tries 1\n1 call a a\n2 back\n3 line x\nelse out", "menu b tries 1\n1 line y\nelse back")
        stack = play(shown, ["1" * 12] * 60).stack
        self.assertEqual(len(stack), 721)
        self.assertEqual(fewest(shown, stack, "back"), 721)
        self.assertEqual(fewest(shown, stack, "x"), 1)
        self.assertEqual(fewest(shown, [*stack, "b"], "y"), 722)
        self.assertEqual(fewest(shown, ["b"] * 721, "back"), 0)


class Enough(DecidingCase):
    """[11]: numbers known by hand."""

    def test_a_called_menu_that_comes_home_by_a_digit(self):
        shown = read(
            "menu a tries 1\n1 call b c\nelse out", "menu b tries 1\n2 back\nelse out",
            "menu c tries 1\n3 line x\nelse out"
        )
        self.assert_fewest(shown, "x", a=3, b=None, c=1)
        self.assert_fewest(shown, "back", a=None, b=1, c=None)
        self.assertEqual(fewest(shown, ["b", "c"], "x"), 2)

    def test_a_called_menu_that_comes_home_by_silence(self):
        shown = read(
            "menu a tries 1\n1 call b c\nelse out", "menu b tries 3\n2 back\nelse back",
            "menu c tries 1\n3 line x\nelse out",
        )
        self.assert_fewest(shown, "x", a=2, b=None, c=1)
        self.assert_fewest(shown, "back", a=None, b=0, c=None)

    def test_calls_within_calls(self):
        shown = read(
            "menu a tries 1\n1 call b d\nelse out", "menu b tries 1\n1 call c c\nelse out",
            "menu c tries 1\n1 back\nelse out", "menu d tries 1\n1 go e\nelse out",
            "menu e tries 1\n1 line x\nelse out",
        )
        self.assert_fewest(shown, "back", a=None, b=3, c=1, d=None, e=None)
        self.assert_fewest(shown, "x", a=6, b=None, c=None, d=2, e=1)
        self.assert_way(shown, "x", 6)

    def test_a_menu_that_costs_twice_what_the_next_one_does(self):
        names = "abcdef"
        menus = [f"menu {one} tries 3\n1 call {two} {two}\nelse again" for one, two in zip(names, names[1:])]
        shown = read(*menus, "menu f tries 1\n1 back\n2 line x\nelse out")
        self.assert_fewest(shown, "back", a=63, b=31, c=15, d=7, e=3, f=1)
        self.assert_fewest(shown, "x", a=6, b=5, c=4, d=3, e=2, f=1)
        self.assertEqual(fewest(shown, list(names), "back"), 120)
        free = [f"menu {one} tries 3\nelse call {two} {two}" for one, two in zip(names, names[1:])]
        shown = read("menu m tries 1\n1 call a n\nelse out", *free, "menu f tries 3\n1 back\nelse out",
                     "menu n tries 2\n1 line x\nelse again")
        self.assert_fewest(shown, "back", a=32, b=16, c=8, d=4, e=2, f=1)
        self.assert_way(shown, "x", 34)

    def test_a_line_that_is_cheaper_behind_a_called_menu_than_within_it(self):
        shown = read(
            "menu a tries 1\n1 call b c\nelse out", "menu b tries 1\n1 go d\nelse back",
            "menu c tries 1\n1 line x\nelse out", "menu d tries 1\n1 go e\nelse out",
            "menu e tries 1\n1 line x\nelse out",
        )
        self.assert_fewest(shown, "x", a=2, b=3, c=1, d=2, e=1)
        self.assertEqual(fewest(shown, ["b", "c"], "x"), 1)
        self.assert_way(shown, "x", 2)
        # Coming home by presses, both cost the same; by one more, it is cheaper within.
        dear = read(str(shown).replace("else back", "2 go f\nelse out"), "menu f tries 1\n1 back\nelse out")
        self.assert_fewest(dear, "x", a=4)
        self.assertEqual(fewest(dear, ["b", "c"], "x"), 3)
        self.assertEqual(fewest(dear, ["b", "b", "c"], "x"), 3)

    def test_the_least_of_several_rows(self):
        shown = read(
            "menu a tries 1\n1 go b\n2 go c\n3 call c d\nelse again", "menu b tries 1\n1 go c\nelse again",
            "menu c tries 1\n1 go d\n9 back\nelse again", "menu d tries 1\n1 line x\nelse again",
        )
        self.assert_fewest(shown, "x", a=3, b=3, c=2, d=1)
        self.assert_fewest(shown, "back", a=2, b=2, c=1, d=None)

    def test_rings_of_silence_cost_nothing_and_lead_nowhere(self):
        shown = read(
            "menu a tries 1\nelse go b", "menu b tries 2\n1 go c\nelse go a", "menu c tries 1\n1 line x\nelse go b",
            "menu d tries 1\nelse go e", "menu e tries 1\nelse call d a",
        )
        self.assert_fewest(shown, "x", a=2, b=2, c=1, d=None, e=None)
        self.assert_fewest(shown, "back", a=None, b=None, c=None, d=None, e=None)
        self.assert_way(shown, "x", 2)

    def test_what_is_due_does_not_change_a_menu(self):
        for due in (["top"], ["bye", "top"], ["ask"], ["pay"] * 5):
            self.assertEqual(fewest(board(), ["bye", *due], "back") is None, fewest(board(), due, "back") is None)
            least = fewest(board(), due, "desk")
            self.assertEqual(fewest(board(), ["bye", *due], "desk"), None if least is None else least + 1)


class Ways(DecidingCase):
    def test_ways(self):
        self.assert_way(board(), "cash", 2)
        self.assert_way(board(), "desk", 1)
        self.assertEqual(way(board(), "cash"), ("1", "1"))
        self.assertEqual(way(board(), "desk"), ("3",))

    def test_a_way_by_silence_takes_all_tries(self):
        shown = read("menu a tries 3\n1 go c\nelse call b b", "menu b tries 2\n1 line x\nelse go c",
                     "menu c tries 1\n1 line y\nelse line z")
        self.assertEqual(way(shown, "z"), ("-",) * 6)
        self.assert_way(shown, "z", 0)
        self.assert_way(shown, "x", 1)
        self.assert_way(shown, "y", 1)

    def test_a_way_through_main(self):
        shown = read("menu a tries 2\n1 call b b\n2 line x\nelse again", "menu b tries 1\n1 line y\nelse main")
        self.assert_way(shown, "x", 1)
        self.assert_way(shown, "y", 2)

    def test_a_way_that_comes_home_several_times(self):
        shown = read(
            "menu a tries 1\n1 call b c\nelse out", "menu b tries 3\n1 call d d\n2 back\nelse call d e",
            "menu c tries 2\n5 call b f\nelse out", "menu d tries 3\n1 back\nelse back", "menu e tries 1\nelse back",
            "menu f tries 1\n1 line x\nelse out",
        )
        self.assert_way(shown, "x", 3)
        self.assert_fewest(shown, "back", a=None, b=0, c=None, d=0, e=0, f=None)

    def test_no_way(self):
        shown = read("menu a tries 1\nelse back", "menu b tries 1\n1 line x\nelse back")
        self.assertIsNone(way(shown, "x"))
        shown = read("menu a tries 1\n1 call b c\nelse out", "menu b tries 1\nelse again",
                     "menu c tries 1\n1 line x\nelse back")
        self.assertIsNone(way(shown, "x"))

    def test_wrong_goals(self):
        for value in any_values() + ["back", "top", "out", "line cash", "cash ", "Cash"]:
            with self.assertRaises(InvalidGoal):
                way(board(), value)


class NeverAndComes(DecidingCase):
    def test_the_board_of_the_document(self):
        self.assertEqual(never(board()), ())
        self.assertEqual(comes(board()), ("ask", "bye", "pay", "top"))
        dead = board().having("top", "3", "back").having("top", "1", "go bye")
        self.assertEqual(never(dead), ("cash",))
        self.assertEqual(comes(dead), ("ask", "bye", "top"))

    def test_menus_that_nobody_reaches(self):
        shown = read(
            "menu m tries 1\n1 line y\nelse out", "menu a tries 1\n1 line x\n2 line y\n3 go b\nelse out",
            "menu b tries 1\n1 line w\n2 go a\nelse main",
        )
        self.assertEqual(never(shown), ("w", "x"))
        self.assertEqual(comes(shown), ("m",))
        self.assertEqual(caught(shown), ())

    def test_what_is_due_starts_only_where_what_is_called_comes_home(self):
        menus = ["menu a tries 1\n1 call b c\nelse out", "menu c tries 1\n1 line x\nelse back"]
        homeless = ["else out", "else again", "else main", "else go b", "1 main\nelse line x", "else call b b"]
        for rows in homeless:
            shown = read(*menus, "menu b tries 1\n" + rows)
            self.assertEqual(comes(shown), ("a", "b"), rows)
        homely = ["1 back\nelse out", "else back", "1 go c\nelse out", "else call c c", "1 call b b\n2 back\nelse out"]
        for rows in homely:
            shown = read(*menus, "menu b tries 1\n" + rows)
            self.assertEqual(comes(shown), ("a", "b", "c"), rows)
            self.assertEqual(never(shown), ())

    def test_every_action_starts_what_it_names(self):
        for action, names in {
            "go b": ("a", "b"), "call b a": ("a", "b"), "call a b": ("a",), "main": ("a",), "again": ("a",),
            "back": ("a",), "out": ("a",), "line b": ("a",), "call b c": ("a", "b", "c"),
        }.items():
            rest = "menu b tries 1\nelse back\nmenu c tries 1\nelse back"
            self.assertEqual(comes(read("menu a tries 1\nelse " + action, rest)), names, action)
            self.assertEqual(comes(read(f"menu a tries 1\n1 {action}\nelse out", rest)), names, action)
        told = comes(read("menu a tries 1\n1 call a b\n2 back\nelse out", "menu b tries 1\nelse out"))
        self.assertEqual(told, ("a", "b"))


class Caught(DecidingCase):
    def test_the_board_of_the_document(self):
        self.assertEqual(caught(board()), ("ask", "bye"))
        self.assertEqual(caught(board().having("bye", "1", "main")), ("ask",))
        self.assertEqual(caught(board().having("bye", "1", "main").having("ask", "2", "go pay")), ())
        self.assertEqual(caught(board().having("pay", "1", "out").having("ask", "2", "go pay")), ("ask", "bye", "pay"))

    def test_caught_with_one_thing_due_and_not_with_another(self):
        menus = ["menu b tries 1\n1 back\nelse out", "menu c tries 1\n1 line x\nelse out", "menu d tries 1\nelse out"]
        both = read("menu a tries 1\n1 call b c\n2 call b d\nelse out", *menus)
        self.assertEqual(caught(both), ("b", "d"))
        self.assertEqual(caught(read("menu a tries 1\n1 call b c\nelse out", *menus)), ())
        self.assertEqual(caught(read("menu a tries 1\n1 call b c\n2 go d\nelse out", *menus)), ("d",))
        self.assertEqual(caught(read("menu a tries 1\n1 call b c\n2 go b\nelse out", *menus)), ("b",))

    def test_caught_because_what_is_beneath_leads_nowhere(self):
        shown = read(
            "menu a tries 1\n1 call b c\n9 line x\nelse again", "menu b tries 2\n1 call d d\nelse again",
            "menu c tries 1\n1 back\nelse out", "menu d tries 1\n1 back\nelse back",
        )
        self.assertEqual(caught(shown), ("b", "c", "d"))
        self.assertEqual(caught(shown.having("b", "5", "back")), ("b", "c", "d"))
        self.assertEqual(caught(shown.having("c", "5", "main")), ())
        # Where d does not come home, c is never met.
        stays = shown.having("c", "5", "main").having("d", "1", "out").having("b", "1", "go d")
        self.assertEqual(caught(read(str(stays).replace("else back", "else out"))), ("b", "d"))

    def test_hope_beneath_what_is_due(self):
        menus = [
            "menu a tries 1\n1 call b e\n2 line x\nelse out", "menu b tries 1\n1 call c d\nelse out",
            "menu c tries 1\nelse back",
        ]
        lines = "menu e tries 1\n1 line x\nelse out"
        homely, homeless = "menu d tries 1\n1 back\nelse out", "menu d tries 1\nelse out"
        self.assertEqual(caught(read(*menus, homely, lines)), ())
        self.assertEqual(caught(read(*menus, homeless, lines)), ("b", "c", "d"))
        self.assertEqual(caught(read(*menus, homely, "menu e tries 1\nelse out")), ("b", "c", "d", "e"))

    def test_main_drops_all_hope_but_its_own(self):
        shown = read(
            "menu a tries 1\n1 call b c\nelse out", "menu b tries 1\n1 main\n2 back\nelse out",
            "menu c tries 1\n1 line x\nelse out",
        )
        self.assertEqual(caught(shown), ())
        # As the main menu itself comes home, it is caught if it stands alone, though not above c.
        shown = read(
            "menu a tries 1\n1 back\nelse out", "menu b tries 1\n1 call a c\nelse out",
            "menu c tries 1\n1 line x\nelse out"
        )
        self.assertEqual(caught(shown), ("a",))
        shown = read(
            "menu a tries 1\n1 back\n2 call a c\nelse out", "menu c tries 1\n1 line x\n2 main\nelse out",
        )
        self.assertEqual(caught(shown), ())

    def test_a_main_menu_that_is_caught(self):
        self.assertEqual(caught(read("menu a tries 1\nelse back", "menu b tries 1\n1 line x\nelse main")), ("a",))
        self.assertEqual(caught(read("menu a tries 1\nelse main", "menu b tries 1\n1 line x\nelse main")), ("a",))
        self.assertEqual(caught(read("menu a tries 1\nelse line x")), ())

    def test_what_nobody_reaches_is_not_caught(self):
        shown = read("menu a tries 1\n1 line x\nelse out", "menu b tries 1\nelse out")
        self.assertEqual(caught(shown), ())

    def test_boards_without_any_line(self):
        shown = read("menu c tries 1\n1 call b a\nelse main", "menu b tries 1\nelse again", "menu a tries 1\nelse back")
        self.assertEqual((shown.lines, caught(shown), never(shown)), ((), ("b", "c"), ()))
        self.assertEqual(caught(read("menu a tries 3\nelse out")), ("a",))

    def test_stacks_that_grow_without_a_bound(self):
        menus = ["menu a tries 1\n1 call b a\n2 line x\nelse out"]
        self.assertEqual(caught(read(*menus, "menu b tries 1\n1 call b b\nelse out")), ("b",))
        self.assertEqual(caught(read(*menus, "menu b tries 1\n1 call b b\n2 back\nelse out")), ())
        told = caught(read(*menus, "menu b tries 1\n1 call b c\nelse back", "menu c tries 1\nelse out"))
        self.assertEqual(told, ("b", "c"))


class Beneath(DecidingCase):
    def test_the_board_of_the_document(self):
        told = {name: beneath(board(), name) for name in board().names}
        self.assertEqual(told, {"top": ("",), "pay": ("bye",), "ask": ("",), "bye": ("",)})

    def test_several(self):
        shown = read(
            "menu a tries 1\n1 call b c\n2 call b d\n3 go b\n4 call c b\nelse again",
            "menu b tries 1\n1 call d d\nelse back",
            "menu c tries 1\n1 go d\nelse back", "menu d tries 1\nelse back",
        )
        told = {name: beneath(shown, name) for name in shown.names}
        self.assertEqual(told, {"a": ("",), "b": ("", "c", "d"), "c": ("", "b"), "d": ("", "b", "c", "d")})

    def test_a_menu_beneath_itself(self):
        shown = read("menu a tries 1\n1 call a a\nelse back")
        self.assertEqual(beneath(shown, "a"), ("", "a"))
        self.assertEqual(beneath(read("menu a tries 1\n1 call a a\nelse main"), "a"), ("", "a"))

    def test_main_starts_with_nothing_due(self):
        shown = read(
            "menu a tries 1\n1 go b\nelse out", "menu b tries 1\n1 call c b\nelse out",
            "menu c tries 1\n1 main\nelse out",
        )
        self.assertEqual([beneath(shown, name) for name in "abc"], [("",), ("",), ("b",)])

    def test_go_and_again_keep_what_is_due(self):
        shown = read(
            "menu a tries 1\n1 call b c\nelse out", "menu b tries 1\n1 again\n2 go d\nelse out",
            "menu c tries 1\nelse out",
            "menu d tries 1\n1 go a\nelse out",
        )
        self.assertEqual([beneath(shown, name) for name in "abcd"], [("", "c"), ("c",), (), ("c",)])

    def test_what_was_due_starts_above_what_is_due_next(self):
        shown = read(
            "menu a tries 1\n1 call b c\nelse out", "menu b tries 1\n1 call d e\nelse out", "menu c tries 1\nelse out",
            "menu d tries 1\n1 back\nelse out", "menu e tries 1\n1 back\nelse out",
        )
        self.assertEqual([beneath(shown, name) for name in "abcde"], [("",), ("c",), ("",), ("e",), ("c",)])

    def test_a_menu_that_never_starts(self):
        shown = read("menu a tries 1\nelse out", "menu b tries 1\n1 call b a\nelse out")
        self.assertEqual(beneath(shown, "b"), ())
        self.assertEqual(beneath(shown, "a"), ("",))

    def test_no_menu(self):
        for value in any_values() + ["cash", "tops", "main", "back", "Top", ["top"], ("top",)]:
            with self.assertRaises(NoMenu) as caught_error:
                beneath(board(), value)
            self.assertIs(caught_error.exception.name, value)


class Silence(DecidingCase):
    def assert_silence(self, shown, **expected):
        for name, end in expected.items():
            self.assertEqual(silence(shown, [name]), end, name)
            self.assertEqual(silence(shown, (name,)), end, name)

    def test_the_board_of_the_document(self):
        self.assert_silence(board(), top="round", pay="out", ask="out", bye="out")
        self.assertEqual(silence(board(), ["pay", "pay", "top"]), "round")
        self.assertEqual(silence(board(), ["pay", "bye", "top"]), "out")

    def test_every_action(self):
        menus = ["menu b tries 3\n1 line y\nelse back", "menu c tries 2\n1 back\nelse line z"]
        ends = {
            "line x": "x", "out": "out", "again": "round", "main": "round", "back": "out", "go b": "out", "go c": "z",
            "call b c": "z", "call b b": "out", "call c b": "z", "call b a": "round", "call c a": "z",
            "call a c": "round",
        }
        for action, end in ends.items():
            self.assert_silence(read("menu a tries 2\n1 line y\nelse " + action, *menus), a=end)

    def test_menus_that_start_anew(self):
        self.assert_silence(read("menu a tries 3\n1 line x\nelse again"), a="round")
        self.assert_silence(read("menu a tries 1\nelse go a"), a="round")
        self.assert_silence(read("menu a tries 2\nelse main"), a="round")

    def test_menus_that_go_round_through_several_others(self):
        shown = read(
            "menu a tries 1\nelse go b", "menu b tries 2\n1 line x\nelse call c d", "menu c tries 1\nelse back",
            "menu d tries 3\nelse go e", "menu e tries 1\nelse main",
        )
        self.assert_silence(shown, a="round", b="round", c="out", d="round", e="round")
        cut = read(str(shown).replace("else main", "else line x"))
        self.assert_silence(cut, a="x", b="x", c="out", d="x", e="x")

    def test_menus_that_call_deeper_and_deeper(self):
        self.assert_silence(read("menu a tries 1\n1 line x\nelse call a a"), a="round")
        shown = read("menu a tries 1\nelse call b c", "menu b tries 2\nelse call a c", "menu c tries 1\nelse line x")
        self.assert_silence(shown, a="round", b="round", c="x")
        self.assertEqual(silence(shown, ["a", "c"]), "round")
        self.assertEqual(silence(shown, ["c", "a"]), "x")

    def test_the_first_menu_comes_home_and_the_rest_goes_on(self):
        shown = read(
            "menu a tries 1\nelse back", "menu b tries 2\nelse call a a", "menu c tries 1\nelse line x",
            "menu d tries 1\nelse again", "menu e tries 1\nelse out", "menu f tries 1\nelse main",
        )
        self.assert_silence(shown, a="out", b="out", c="x", d="round", e="out", f="out")
        self.assertEqual(silence(shown, ["a", "c"]), "x")
        self.assertEqual(silence(shown, ["b", "b", "a", "c", "e"]), "x")
        self.assertEqual(silence(shown, ["a", "d", "c"]), "round")
        self.assertEqual(silence(shown, ["b", "e", "c"]), "out")
        self.assertEqual(silence(shown, ["a", "b", "a", "b", "a", "b"]), "out")
        # Nothing is due any more behind main: the main menu comes home to nothing.
        self.assertEqual(silence(shown, ["a", "f", "c"]), "out")

    def test_main_from_within_a_call(self):
        shown = read("menu a tries 1\nelse line x", "menu b tries 1\nelse call c b", "menu c tries 1\nelse main")
        self.assert_silence(shown, a="x", b="x", c="x")
        self.assertEqual(silence(shown, ["c", "b", "b"]), "x")
        home = read(str(shown).replace("line x", "back"))
        self.assert_silence(home, a="out", b="out", c="out")

    def test_the_last_menus_of_a_board_decide_first(self):
        names = "abcdef"
        chain = [f"menu {one} tries 1\nelse go {two}" for one, two in zip(names, names[1:])]
        self.assert_silence(read(*chain, "menu f tries 1\nelse line x"), a="x", c="x", f="x")
        self.assert_silence(read("menu f tries 1\nelse line x", *reversed(chain)), a="x", c="x", f="x")
        calls = [f"menu {one} tries 3\nelse call {two} {two}" for one, two in zip(names, names[1:])]
        self.assert_silence(read(*calls, "menu f tries 1\nelse back"), a="out", b="out", f="out")
        told = silence(read(*calls, "menu f tries 1\nelse back", "menu g tries 1\nelse line x"), ["a", "g"])
        self.assertEqual(told, "x")

    def test_what_play_shows(self):
        shown = board()
        for stack, events in ((["pay", "bye"], ["1", "-", "-"]), (["ask"], ["2", "-"]), (["bye"], ["12", "-"])):
            self.assertEqual(silence(shown, stack), play(shown, events).end)

    def test_wrong_stacks(self):
        for value in any_values():
            if not isinstance(value, (list, tuple)) or len(value) == 0:
                self.assert_stack(0, silence, board(), value)
            self.assert_stack(0, silence, board(), [value])
            self.assert_stack(2, silence, board(), ("ask", "top", value, value))
        for value in ("top", "cash", {"top": 1}, {"top"}):
            self.assert_stack(0, silence, board(), value)
            self.assert_stack(1, silence, board(), ["top", "cash"])

    def test_deep_stacks(self):
        shown = read("menu a tries 1\n1 call a a\nelse back", "menu b tries 1\nelse line x")
        stack = play(shown, ["1" * 12] * 60).stack
        self.assertEqual((silence(shown, stack), silence(shown, [*stack, "b"])), ("out", "x"))


class Arguments(DecidingCase):
    def test_they_stay_as_they_are(self):
        stack = ["pay", "bye", "top"]
        shown = board()
        fewest(shown, stack, "cash")
        fewest(shown, stack, "back")
        silence(shown, stack)
        self.assertEqual(stack, ["pay", "bye", "top"])
        self.assertEqual(shown, board())
        wrong = ["top", Menu("a", [], "out"), ["b"]]
        with self.assertRaises(InvalidStack):
            fewest(shown, wrong, "cash")
        self.assertEqual((wrong[0], wrong[2]), ("top", ["b"]))


if __name__ == "__main__":
    unittest.main()
