"""Single rows that mend a board, and those that it does not need: [17]."""

import random
import unittest

from chances import full_board, some_board
from menuhome.boards import Board
from menuhome.deciding import caught, fewest
from menuhome.mending import mends, needless
from samples import board, read
from second import DIGITS, free_digits, rows_of, second_mends, second_needless, text_without


def all_of(shown, *pairs):
    """All triples of these pairs (menu, word), with each digit that has no row."""
    return tuple(sorted(
        (name, digit, word) for name, word in pairs for digit in free_digits(shown.menu(name))
    ))


def kinds(shown):
    """All triples that could be told of a board."""
    return all_of(shown, *[(name, word) for name in shown.names for word in ("back", "main")])


class MendsCase(unittest.TestCase):
    def assert_mends(self, shown, *pairs):
        """Just these pairs (menu, word) mend, with each digit that has no row."""
        told = mends(shown)
        self.assertEqual(told, all_of(shown, *pairs), str(shown))
        self.assertIs(type(told), tuple)
        for triple in told:
            self.assertIs(type(triple), tuple)
        for triple in kinds(shown):
            self.assertEqual(caught(shown.having(*triple)) == (), triple in told, (triple, str(shown)))


class Mends(MendsCase):
    def test_the_board_of_the_document(self):
        self.assert_mends(board())
        self.assertEqual(caught(board()), ("ask", "bye"))
        # With one of both mended by hand, a row mends the other one.
        self.assert_mends(board().having("ask", "5", "main"), ("bye", "main"))
        self.assert_mends(board().having("bye", "5", "main"), ("ask", "main"))

    def test_a_menu_that_is_caught_by_one_thing_due(self):
        shown = read(
            "menu a tries 1\n1 call b c\n2 call b d\nelse again", "menu b tries 1\n1 back\nelse again",
            "menu c tries 1\nelse again", "menu d tries 1\n1 line x\nelse again",
        )
        self.assertEqual(caught(shown), ("b", "c"))
        # Nothing is due beneath c, and b is caught above c alone.
        self.assert_mends(shown, ("c", "main"))
        self.assertEqual(len(mends(shown)), 10)

    def test_main_mends_where_back_does_not(self):
        shown = read("menu a tries 2\n1 go b\n2 line x\nelse out", "menu b tries 1\n3 again\nelse out")
        self.assert_mends(shown, ("b", "main"))
        self.assertEqual(mends(shown), tuple(("b", digit, "main") for digit in "012456789"))

    def test_back_mends_where_main_does_not(self):
        shown = read(
            "menu a tries 1\nelse call b c", "menu b tries 1\n9 again\nelse again", "menu c tries 1\n1 line x\nelse out"
        )
        self.assertEqual(caught(shown), ("a", "b"))
        self.assert_mends(shown, ("b", "back"))

    def test_both_mend(self):
        shown = read(
            "menu a tries 1\n1 call b c\n5 line y\nelse out", "menu b tries 3 clear\nelse again",
            "menu c tries 1\n1 line x\nelse out",
        )
        self.assert_mends(shown, ("b", "back"), ("b", "main"))
        self.assertEqual(mends(shown)[:3], (("b", "0", "back"), ("b", "0", "main"), ("b", "1", "back")))

    def test_a_row_of_another_menu_mends(self):
        # The menu that is caught leads to another one, which may come home or start anew.
        shown = read(
            "menu a tries 1\n1 call b d\n2 line x\nelse out", "menu b tries 1\nelse go c", "menu c tries 1\nelse go b",
            "menu d tries 1\n1 line y\nelse out",
        )
        self.assertEqual(caught(shown), ("b", "c"))
        self.assert_mends(shown, ("b", "back"), ("b", "main"), ("c", "back"), ("c", "main"))

    def test_nothing_mends(self):
        shown = read(
            "menu a tries 1\n1 go b\n2 go c\n3 line x\nelse out", "menu b tries 1\nelse out", "menu c tries 1\nelse out"
        )
        self.assertEqual(caught(shown), ("b", "c"))
        self.assert_mends(shown)
        self.assertEqual(mends(shown), ())

    def test_nothing_is_caught_at_all(self):
        shown = read("menu a tries 1\n1 line x\nelse again")
        self.assertEqual(caught(shown), ())
        self.assert_mends(shown, ("a", "back"), ("a", "main"))

    def test_coming_home_catches_where_nothing_was_caught(self):
        shown = read(
            "menu a tries 1\n1 call b c\n2 line x\nelse out", "menu b tries 1\n7 line y\nelse out",
            "menu c tries 1\nelse out",
        )
        self.assertEqual(caught(shown), ())
        # Then c, which never started so far, starts and is caught.
        self.assert_mends(shown, ("a", "back"), ("a", "main"), ("b", "main"), ("c", "back"), ("c", "main"))

    def test_a_menu_that_never_starts_is_no_matter(self):
        shown = read("menu a tries 1\n1 line x\nelse out", "menu b tries 1\n0 go b\nelse again")
        self.assert_mends(shown, ("a", "back"), ("a", "main"), ("b", "back"), ("b", "main"))

    def test_boards_without_lines(self):
        self.assertEqual(mends(read("menu a tries 1\nelse back")), ())
        self.assertEqual(mends(read("menu a tries 1\n1 call b a\nelse back", "menu b tries 1\nelse main")), ())

    def test_a_menu_with_rows_for_all_digits(self):
        rows = "\n".join(f"{digit} line x" for digit in DIGITS)
        shown = read(f"menu a tries 1\n{rows}\nelse go b", "menu b tries 1\nelse back")
        self.assertEqual(caught(shown), ("b",))
        self.assert_mends(shown, ("b", "main"))
        self.assertEqual(mends(read(f"menu a tries 1\n{rows}\nelse out")), ())

    def test_ascending_whatever_the_order_of_the_board(self):
        shown = read("menu z tries 1\n1 go b\n9 line x\nelse out", "menu b tries 1\n5 go k\nelse out",
                     "menu k tries 1\n0 go b\nelse out")
        self.assert_mends(shown, ("b", "main"), ("k", "main"))
        self.assertEqual([mends(shown)[at] for at in (0, 8, 9, 17)],
                         [("b", "0", "main"), ("b", "9", "main"), ("k", "1", "main"), ("k", "9", "main")])
        shown = read("menu z tries 1\n1 line x\nelse out", "menu b tries 1\nelse out")
        self.assertEqual(list(mends(shown)), sorted(kinds(shown)))

    def test_digits_that_have_a_row_are_not_told(self):
        shown = read("menu a tries 1\n0 line x\n5 go a\n9 out\nelse back")
        self.assertEqual({digit for name, digit, word in mends(shown)}, set("1234678"))
        self.assert_mends(shown, ("a", "back"), ("a", "main"))


class Needless(unittest.TestCase):
    def assert_needless(self, shown, *rows):
        told = needless(shown)
        self.assertEqual(told, rows, str(shown))
        self.assertIs(type(told), tuple)
        for row in rows_of(shown):
            self.assertIs(self.is_needless(shown, row), row in told, (row, str(shown)))

    def is_needless(self, shown, row):
        """Whether the board without this row leads to the same lines by as few presses, by its text."""
        left = Board.read(text_without(shown, *row))
        least = {line: fewest(shown, shown.names[:1], line) for line in shown.lines}
        return all(
            presses == (fewest(left, left.names[:1], line) if line in left.lines else None)
            for line, presses in least.items()
        )

    def test_the_board_of_the_document(self):
        self.assert_needless(board(), ("ask", "1"), ("bye", "1"), ("bye", "9"), ("pay", "2"), ("top", "2"))

    def test_twins_of_rows(self):
        shown = read("menu a tries 1\n1 line x\n2 line x\n3 line y\nelse out")
        self.assert_needless(shown, ("a", "1"), ("a", "2"))
        self.assert_needless(Board.read(text_without(shown, "a", "1")))
        shown = read(
            "menu a tries 1\n1 go b\n2 go c\nelse out", "menu b tries 1\n5 line x\nelse out",
            "menu c tries 1\n5 line x\nelse out",
        )
        self.assert_needless(shown, ("a", "1"), ("a", "2"), ("b", "5"), ("c", "5"))

    def test_rows_to_menus_that_lead_nowhere(self):
        shown = read(
            "menu a tries 1\n1 go b\n2 call b c\n3 line x\nelse out", "menu b tries 1\n1 again\n2 go b\nelse out",
            "menu c tries 1\n1 line y\nelse out",
        )
        self.assert_needless(shown, ("a", "1"), ("a", "2"), ("b", "1"), ("b", "2"), ("c", "1"))

    def test_a_longer_way_beside_a_shorter_one(self):
        shown = read("menu a tries 2\n1 go b\n2 line x\nelse out", "menu b tries 2\n1 line x\nelse out")
        self.assert_needless(shown, ("a", "1"), ("b", "1"))
        # With another line at its end, the longer way is needed too.
        both = shown.having("b", "7", "line y")
        self.assert_needless(both, ("b", "1"))

    def test_the_same_line_by_more_presses_is_not_enough(self):
        shown = read("menu a tries 1\n1 line x\n2 go b\nelse out", "menu b tries 1\n1 line x\nelse out")
        self.assertNotIn(("a", "1"), needless(shown))
        self.assertEqual(fewest(Board.read(text_without(shown, "a", "1")), ["a"], "x"), 2)

    def test_rows_beside_silence_that_costs_nothing(self):
        shown = read("menu a tries 3\n1 line x\n2 go b\nelse line x", "menu b tries 1\n1 line x\n2 line y\nelse out")
        self.assert_needless(shown, ("a", "1"), ("b", "1"))
        self.assert_needless(read("menu a tries 1\n1 go b\nelse go b", "menu b tries 1\nelse line x"), ("a", "1"))

    def test_rows_by_which_a_called_menu_comes_home(self):
        shown = read(
            "menu a tries 1\n1 call b c\nelse out", "menu b tries 1\n1 back\n2 go c\nelse out",
            "menu c tries 1\n4 line x\n6 back\nelse out",
        )
        # As cheap within b as behind it: either row alone can be left out.
        self.assertEqual(fewest(shown, ["a"], "x"), 3)
        self.assert_needless(shown, ("b", "1"), ("b", "2"), ("c", "6"))
        self.assert_needless(Board.read(text_without(shown, "b", "1")), ("c", "6"))
        self.assert_needless(Board.read(text_without(shown, "b", "2")), ("c", "6"))

    def test_rows_with_main(self):
        shown = read("menu a tries 1\n1 go b\n2 line x\nelse out", "menu b tries 1\n1 main\n2 line y\nelse out")
        self.assert_needless(shown, ("b", "1"))

    def test_rows_of_menus_that_nobody_reaches(self):
        shown = read("menu a tries 1\n1 line x\nelse out", "menu b tries 1\n1 line y\n2 go a\nelse out")
        self.assert_needless(shown, ("b", "1"), ("b", "2"))

    def test_boards_without_any_line(self):
        shown = read("menu a tries 1\n2 call b a\n1 go b\nelse back", "menu b tries 1\n0 main\nelse back")
        self.assert_needless(shown, ("a", "1"), ("a", "2"), ("b", "0"))
        self.assert_needless(read("menu a tries 1\nelse out"))

    def test_no_row_is_needless(self):
        self.assert_needless(read("menu a tries 1\n1 line x\n2 line y\nelse line z"))
        self.assert_needless(read("menu a tries 1\nelse line z"))

    def test_each_alone_not_all_together(self):
        shown = read("menu a tries 1\n1 line x\n2 line x\nelse out")
        self.assertEqual(len(needless(shown)), 2)
        self.assertEqual(Board.read(text_without(shown, "a", "1")).lines, ("x",))

    def test_pairs_are_tuples(self):
        for row in needless(board()):
            self.assertIs(type(row), tuple)
            self.assertEqual([type(part) for part in row], [str, str])


class Comparing(MendsCase):
    def compare_mends(self, seed, menus, rows, deepest, many):
        chance = random.Random(seed)
        found = 0
        for _ in range(many):
            shown = some_board(chance, menus, rows)
            told = mends(shown)
            self.assertEqual(told, second_mends(shown, deepest, 3), str(shown))
            found += told not in ((), kinds(shown))
        return found

    def test_mends_of_one_menu(self):
        # Either the main menu is caught, and no row mends it, or nothing ever is.
        self.assertEqual(self.compare_mends(21, 1, 3, 6, 200), 0)

    def test_mends_of_two_menus(self):
        self.assertGreater(self.compare_mends(22, 2, 3, 8, 400), 10)

    def test_mends_of_three_menus(self):
        self.assertGreater(self.compare_mends(23, 3, 2, 6, 300), 10)
        self.assertGreater(self.compare_mends(27, 3, 3, 6, 60), 2)

    def test_mends_of_larger_boards(self):
        """Each told row leaves no menu caught, each other one of the kind leaves some."""
        chance = random.Random(24)
        for _ in range(12):
            shown = some_board(chance, chance.randint(3, 5), 4)
            told = mends(shown)
            self.assertEqual(list(told), sorted(told))
            self.assertEqual([row for row in kinds(shown) if caught(shown.having(*row)) == ()], list(told))

    def test_needless(self):
        chance = random.Random(25)
        found = 0
        for _ in range(250):
            shown = some_board(chance, chance.randint(1, 6), 5)
            told = needless(shown)
            self.assertEqual(told, second_needless(shown, 9 if len(shown) < 3 else 6), str(shown))
            found += len(told) < len(rows_of(shown))
        self.assertGreater(found, 50)

    def test_needless_of_full_boards(self):
        chance = random.Random(26)
        for _ in range(6):
            shown = full_board(chance)
            self.assertEqual(needless(shown), second_needless(shown, 6), str(shown))


class Arguments(unittest.TestCase):
    def test_the_board_stays_as_it_is(self):
        shown = board()
        first = mends(shown), needless(shown)
        mends(shown.having("ask", "2", "main"))
        needless(shown.having("ask", "2", "main"))
        self.assertEqual(shown, board())
        self.assertEqual((mends(shown), needless(shown)), first)


if __name__ == "__main__":
    unittest.main()
