"""Menus that are alike, and boards in which one stands for all of its kind: [18]."""

import random
import unittest

from chances import some_board, twin_board
from menuhome.boards import Board
from menuhome.calls import play
from menuhome.comparing import alike, heaps, merged
from menuhome.deciding import fewest, silence
from menuhome.errors import NoMenu
from samples import any_values, board, read
from second import second_heaps, second_merged


class ComparingCase(unittest.TestCase):
    def assert_heaps(self, shown, *expected):
        """These are the heaps, each a string of names; alike and merged tell the same."""
        told = heaps(shown)
        self.assertEqual(told, tuple(tuple(heap.split(" ")) for heap in expected), str(shown))
        self.assertIs(type(told), tuple)
        for heap in told:
            self.assertIs(type(heap), tuple)
        for one in shown.names:
            for other in shown.names:
                same = any(one in heap and other in heap for heap in told)
                self.assertIs(alike(shown, one, other), same, (one, other, str(shown)))
        self.assertEqual(merged(shown).names, tuple(heap[0] for heap in told))


class Heaps(ComparingCase):
    def test_the_board_of_the_document(self):
        self.assert_heaps(board(), "top", "pay", "ask", "bye")

    def test_the_example_of_the_document(self):
        twin = read(str(board()), "menu twin tries 1\n2 back\n1 line cash\nelse back")
        self.assert_heaps(twin, "top", "pay twin", "ask", "bye")

    def test_one_menu(self):
        self.assert_heaps(read("menu a tries 1\nelse out"), "a")

    def test_all_alike(self):
        self.assert_heaps(read(*[f"menu {name} tries 2 clear\n1 line x\nelse out" for name in "fbdaec"]), "f b d a e c")

    def test_menus_that_differ_in_tries(self):
        self.assert_heaps(read("menu a tries 1\n1 line x\nelse out", "menu b tries 2\n1 line x\nelse out"), "a", "b")
        self.assert_heaps(read("menu a tries 2\nelse out", "menu b tries 2\nelse out"), "a b")

    def test_menus_that_differ_in_clears(self):
        self.assert_heaps(read("menu a tries 1\n1 line x\nelse out", "menu b tries 1 clear\n1 line x\nelse out"),
                          "a", "b")
        self.assert_heaps(read("menu a tries 1 clear\nelse out", "menu b tries 1 clear\nelse out"), "a b")

    def test_menus_that_differ_in_a_digit(self):
        self.assert_heaps(read("menu a tries 1\n1 line x\nelse out", "menu b tries 1\n2 line x\nelse out"), "a", "b")
        self.assert_heaps(read("menu a tries 1\n1 out\nelse out", "menu b tries 1\n1 out\n2 out\nelse out"), "a", "b")
        self.assert_heaps(read("menu a tries 1\nelse out", "menu b tries 1\n5 out\nelse out"), "a", "b")

    def test_menus_that_differ_in_an_action(self):
        actions = ["line x", "line y", "out", "again", "main", "go a", "call a a", "back"]
        for at, one in enumerate(actions):
            for other in actions[at + 1:]:
                shown = read(f"menu a tries 1\n3 {one}\nelse out", f"menu b tries 1\n3 {other}\nelse out")
                self.assert_heaps(shown, "a", "b")
                shown = read(f"menu a tries 1\n3 out\nelse {one}", f"menu b tries 1\n3 out\nelse {other}")
                self.assert_heaps(shown, "a", "b")
            self.assert_heaps(read(f"menu a tries 1\n3 {one}\nelse {one}", f"menu b tries 1\n3 {one}\nelse {one}"),
                              "a b")

    def test_actions_at_other_digits(self):
        shown = read("menu a tries 1\n1 line x\n2 line y\nelse out", "menu b tries 1\n1 line y\n2 line x\nelse out")
        self.assert_heaps(shown, "a", "b")
        # In a text the rows may stand in any order.
        shown = read("menu a tries 1\n1 line x\n2 line y\nelse out", "menu b tries 1\n2 line y\n1 line x\nelse out")
        self.assert_heaps(shown, "a b")

    def test_rows_are_not_the_tail(self):
        self.assert_heaps(read("menu a tries 1\n1 out\nelse back", "menu b tries 1\n1 back\nelse out"), "a", "b")

    def test_actions_that_do_the_same_are_not_the_same(self):
        shown = read("menu a tries 1\nelse again", "menu b tries 1\nelse go b", "menu c tries 1\nelse main")
        self.assert_heaps(shown, "a", "b", "c")
        shown = read("menu a tries 1\n1 main\nelse out", "menu b tries 1\n1 go a\nelse out")
        self.assert_heaps(shown, "a", "b")

    def test_an_action_far_behind(self):
        names = "abc"
        left = [f"menu {one} tries 1\nelse go {two}" for one, two in zip("abc", "bcd")]
        right = [f"menu {one} tries 1\nelse go {two}" for one, two in zip("ijk", "jkl")]
        self.assert_heaps(read(*left, *right, "menu d tries 1\n9 out\nelse back", "menu l tries 1\n9 out\nelse out"),
                          *names, *"ijk", "d", "l")
        self.assert_heaps(read(*left, *right, "menu d tries 1\n9 out\nelse back", "menu l tries 1\n9 out\nelse back"),
                          "a i", "b j", "c k", "d l")

    def test_what_is_called_and_what_is_due(self):
        menus = ["menu c tries 1\nelse back", "menu d tries 1\nelse back", "menu e tries 1\nelse out"]
        self.assert_heaps(read("menu a tries 1\nelse call c d", "menu b tries 1\nelse call d c", *menus),
                          "a b", "c d", "e")
        self.assert_heaps(read("menu a tries 1\nelse call c e", "menu b tries 1\nelse call e d", *menus),
                          "a", "b", "c d", "e")
        self.assert_heaps(read("menu a tries 1\nelse call c e", "menu b tries 1\nelse call d e", *menus),
                          "a b", "c d", "e")
        self.assert_heaps(read("menu a tries 1\nelse call c d", "menu b tries 1\nelse call c e", *menus),
                          "a", "b", "c d", "e")

    def test_a_menu_that_leads_to_itself_beside_one_that_leads_to_its_twin(self):
        for action, other in (("go a", "go a"), ("go a", "go b"), ("go b", "go a"), ("call a b", "call b b")):
            self.assert_heaps(read(f"menu a tries 1\n1 {action}\nelse out", f"menu b tries 1\n1 {other}\nelse out"),
                              "a b")
        self.assert_heaps(read("menu a tries 1\n1 go a\nelse out", "menu b tries 1\n1 go a\nelse back"), "a", "b")

    def test_rings(self):
        # A ring of three and one of two, and a menu that goes to itself: nothing tells them apart.
        ring = {"a": "b", "b": "c", "c": "a", "d": "e", "e": "d", "f": "f"}
        self.assert_heaps(read(*[f"menu {one} tries 2\n1 go {two}\nelse again" for one, two in ring.items()]),
                          "a b c d e f")
        self.assert_heaps(read(*[f"menu {one} tries 2\n1 call {two} {two}\nelse out" for one, two in ring.items()]),
                          "a b c d e f")
        marked = [f"menu {one} tries {3 if one == 'c' else 2}\n1 go {two}\nelse again" for one, two in ring.items()]
        self.assert_heaps(read(*marked), "a", "b", "c", "d e f")

    def test_rings_of_unlike_menus(self):
        ring = {"a": "b", "b": "c", "c": "d", "d": "a"}
        menus = [f"menu {one} tries {1 if one in 'ac' else 2}\n1 call {two} {one}\nelse out"
                 for one, two in ring.items()]
        self.assert_heaps(read(*menus), "a c", "b d")
        self.assert_heaps(read(*menus).having("c", "1", "call d a"), "a c", "b d")
        self.assert_heaps(read(*menus).having("c", "1", "call d b"), "a", "b", "c", "d")

    def test_lines_with_unlike_names(self):
        self.assert_heaps(read("menu a tries 1\n1 line x\nelse out", "menu b tries 1\n1 line y\nelse out"), "a", "b")

    def test_lines_with_the_names_of_menus(self):
        # The menus a and b are alike but the lines a and b are not the same.
        menus = ["menu a tries 1\nelse out", "menu b tries 1\nelse out"]
        self.assert_heaps(read(*menus, "menu c tries 1\nelse line a", "menu d tries 1\nelse line b"), "a b", "c", "d")
        shown = read(*menus, "menu c tries 1\nelse line b", "menu d tries 1\nelse line b")
        self.assert_heaps(shown, "a b", "c d")
        self.assertEqual(str(merged(shown)), "menu a tries 1\nelse out\nmenu c tries 1\nelse line b")

    def test_heaps_stand_in_the_order_of_the_board(self):
        kinds = {"f": "out", "b": "back", "a": "out", "d": "main", "c": "back", "e": "out"}
        self.assert_heaps(read(*[f"menu {name} tries 1\nelse {tail}" for name, tail in kinds.items()]),
                          "f a e", "b c", "d")


class Alike(ComparingCase):
    def test_a_menu_is_like_itself(self):
        for name in board().names:
            self.assertIs(alike(board(), name, name), True)
        self.assertIs(alike(board(), "pay", "bye"), False)

    def test_no_menu(self):
        for value in any_values() + ["cash", "main", "back", "tops", ["top"], ("top",), ""]:
            with self.assertRaises(NoMenu) as error:
                alike(board(), value, "top")
            self.assertIs(error.exception.name, value)
            with self.assertRaises(NoMenu) as error:
                alike(board(), "top", value)
            self.assertIs(error.exception.name, value)

    def test_the_first_one_that_is_none(self):
        for one in any_values():
            for other in (None, "x", ["top"], True):
                with self.assertRaises(NoMenu) as error:
                    alike(board(), one, other)
                self.assertIs(error.exception.name, one)


class Merged(ComparingCase):
    def test_the_example_of_the_document(self):
        twin = read(str(board()), "menu twin tries 1\n2 back\n1 line cash\nelse back")
        self.assertEqual(merged(twin), board())
        self.assertEqual(str(merged(twin.having("top", "1", "call twin twin"))),
                         str(board().having("top", "1", "call pay pay")))

    def test_first_menus_lead_to_first_menus(self):
        shown = read(
            "menu m tries 2\n1 go e\n2 call b d\n3 line e\nelse go e", "menu e tries 1\n1 go d\nelse call d b",
            "menu b tries 3 clear\nelse back", "menu d tries 1\n1 go e\nelse call e c", "menu c tries 3 clear\nelse back",
        )
        self.assert_heaps(shown, "m", "e d", "b c")
        self.assertEqual(str(merged(shown)), "\n".join([
            "menu m tries 2\n1 go e\n2 call b e\n3 line e\nelse go e", "menu e tries 1\n1 go e\nelse call e b",
            "menu b tries 3 clear\nelse back",
        ]))

    def test_the_main_menu_stays_the_first(self):
        shown = read("menu f tries 1\n1 go a\n2 main\nelse out", "menu a tries 1\n1 go f\n2 main\nelse out")
        self.assertEqual(str(merged(shown)), "menu f tries 1\n1 go f\n2 main\nelse out")

    def test_a_board_without_menus_that_are_alike_stays(self):
        self.assertEqual(merged(board()), board())
        for text in ("menu a tries 1\nelse out", "menu a tries 1\nelse go b\nmenu b tries 2\nelse go a"):
            self.assertEqual(str(merged(Board.read(text))), text)

    def test_the_board_itself_stays_as_it_is(self):
        twin = read(str(board()), "menu twin tries 1\n2 back\n1 line cash\nelse back")
        text = str(twin)
        merged(twin)
        heaps(twin)
        self.assertEqual(str(twin), text)
        self.assertEqual(len(merged(twin)), 4)


class Boards(ComparingCase):
    """Boards by chance, with twins of menus."""

    def boards(self, seed, many):
        chance = random.Random(seed)
        for at in range(many):
            if at % 3:
                yield chance, twin_board(chance, chance.randint(1, 3), chance.randint(1, 3), chance.randint(0, 4))
            else:
                yield chance, some_board(chance, chance.randint(1, 6), chance.randint(0, 2), ())

    def test_heaps_and_merged(self):
        sizes = set()
        for _, shown in self.boards(31, 500):
            expected = second_heaps(shown)
            self.assert_heaps(shown, *[" ".join(heap) for heap in expected])
            self.assertEqual(str(merged(shown)), second_merged(shown))
            sizes.update(len(heap) for heap in expected)
        self.assertLessEqual({1, 2, 3, 4}, sizes)

    def test_merged_again_it_stays(self):
        for _, shown in self.boards(32, 300):
            once = merged(shown)
            self.assertEqual(merged(once), once)
            self.assertEqual(heaps(once), tuple((name,) for name in once.names))

    def test_calls_come_to_the_same_ends_by_the_same_presses(self):
        compared = 0
        for chance, shown in self.boards(33, 300):
            once = merged(shown)
            firsts = {name: heap[0] for heap in heaps(shown) for name in heap}
            events = self.some_events(chance, shown)
            one, other = play(shown, events), play(once, events)
            self.assertEqual((one.end, one.tries, one.presses), (other.end, other.tries, other.presses), str(shown))
            self.assertEqual(tuple(firsts[name] for name in one.stack), other.stack)
            self.assertEqual(tuple(firsts[name] for name in one.started), other.started)
            compared += once != shown
        self.assertGreater(compared, 100)

    def some_events(self, chance, shown):
        events = []
        while len(events) < 15 and play(shown, events).end is None:
            digits = "".join(chance.choice("12345") for _ in range(chance.randint(1, 3)))
            events.append(chance.choice([digits, "-", "-" + digits[0]]))
        return events

    def test_the_same_is_decided(self):
        for chance, shown in self.boards(34, 100):
            once = merged(shown)
            firsts = {name: heap[0] for heap in heaps(shown) for name in heap}
            stack = [chance.choice(shown.names) for _ in range(3)]
            first_stack = [firsts[name] for name in stack]
            self.assertEqual(silence(shown, stack), silence(once, first_stack))
            self.assertEqual(shown.lines, once.lines)
            for goal in (*shown.lines, "back"):
                self.assertEqual(fewest(shown, stack, goal), fewest(once, first_stack, goal))


if __name__ == "__main__":
    unittest.main()
