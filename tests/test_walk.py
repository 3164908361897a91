"""What is decided ([10] to [15]), compared with going through all calls step by step."""

import random
import unittest

from chances import some_board
from menuhome.calls import play
from menuhome.deciding import beneath, caught, comes, fewest, never, silence, way
from menuhome.hearts import by_heart, hearts
from menuhome.late import astray
from menuhome.papers import paper, paper_holds
from samples import board, read
from walk import HOME, OUT, Walk


class Walking(unittest.TestCase):
    """The walk itself tells what play tells."""

    def test_states_are_those_of_play(self):
        chance = random.Random(1)
        for _ in range(300):
            shown = some_board(chance, chance.randint(1, 4), 4)
            walk = Walk(shown, 60)
            state = walk.start([walk.main])
            events = []
            while isinstance(state, tuple) and len(events) < 12:
                self.assertEqual((play(shown, events).stack, play(shown, events).tries), state)
                events.append(chance.choice(walk.signs(state)))
                state = walk.press(state, events[-1])
            if isinstance(state, str):
                end = "out" if state in (HOME, OUT) else state.split(" ")[1]
                self.assertEqual(play(shown, events).end, end)

    def test_what_cuts_a_walk(self):
        walk = Walk(read("menu a tries 1\n1 call a a\n2 line x\nelse back"), 5)
        self.assertEqual((walk.comes(), walk.cut, len(walk.starts())), (("a",), True, 5))
        walk = Walk(board(), 3)
        self.assertEqual((walk.comes(), walk.cut), (("ask", "bye", "pay", "top"), False))


class Comparing(unittest.TestCase):
    def compare_ways(self, shown, deepest, stacks):
        """Numbers: the walk finds the fewest presses even where it was cut, for stacks are not deep by the best way."""
        for line in shown.lines:
            told = by_heart(shown, line)
            self.assertEqual(told and len(told), Walk(shown, deepest).by_heart(line), (line, str(shown)))
            self.assertEqual(line in hearts(shown), told is not None)
            least = fewest(shown, shown.names[:1], line)
            self.assertTrue(paper_holds(shown, line, least, paper(shown, line)), (line, str(shown)))
            if least is None:
                self.assertIsNone(way(shown, line))
            else:
                played = play(shown, way(shown, line))
                self.assertEqual((played.end, played.presses), (line, least), str(shown))
        for stack in stacks:
            for goal in (*shown.lines, "back"):
                expected = Walk(shown, deepest + len(stack)).fewest(stack, goal)
                self.assertEqual(fewest(shown, stack, goal), expected, (stack, goal, str(shown)))
            self.assertEqual(silence(shown, stack), Walk(shown, 50).silence(stack), (stack, str(shown)))

    def compare_calls(self, shown, walk, margin):
        """Sets of what there is in some call: all of it is met by the walk."""
        self.assertEqual(never(shown), walk.never(), str(shown))
        self.assertEqual(comes(shown), walk.comes(), str(shown))
        self.assertEqual(astray(shown), walk.astray(), str(shown))
        for name in shown.names:
            self.assertEqual(beneath(shown, name), walk.beneath(name), (name, str(shown)))
        # Near the end of a walk that was cut, the walk does not see what leads to a line.
        deepest = walk.deepest - margin if walk.cut else walk.deepest
        self.assertEqual(caught(shown), walk.caught(deepest), str(shown))

    def compare_some(self, shown, walk):
        """What a walk that was cut meets, the package must know; and it must not miss more lines than the walk."""
        self.assertLessEqual(set(never(shown)), set(walk.never()), str(shown))
        self.assertLessEqual(set(walk.comes()), set(comes(shown)), str(shown))
        self.assertLessEqual(set(walk.astray()), set(astray(shown)), str(shown))
        for name in shown.names:
            self.assertLessEqual(set(walk.beneath(name)), set(beneath(shown, name)), (name, str(shown)))
        self.assertLessEqual(set(caught(shown)), set(comes(shown)))

    def some_stacks(self, chance, shown, many):
        return [[chance.choice(shown.names) for _ in range(chance.randint(1, 3))] for _ in range(many)]

    def compare_small(self, seed, menus, rows, deepest, many):
        chance = random.Random(seed)
        for _ in range(many):
            shown = some_board(chance, menus, rows)
            walk = Walk(shown, deepest)
            walk.states()
            self.compare_calls(shown, walk, 4)
            self.compare_ways(shown, deepest, self.some_stacks(chance, shown, 2))

    def test_boards_of_one_menu(self):
        self.compare_small(11, 1, 5, 6, 300)

    def test_boards_of_two_menus(self):
        self.compare_small(12, 2, 3, 9, 250)

    def test_boards_of_three_menus(self):
        self.compare_small(13, 3, 3, 9, 150)

    def test_boards_without_lines(self):
        chance = random.Random(14)
        for _ in range(100):
            shown = some_board(chance, chance.randint(1, 3), 3, ())
            self.assertEqual((never(shown), hearts(shown), caught(shown)), ((), (), comes(shown)))
            self.assertEqual(fewest(shown, ["a"], "back"), Walk(shown, 9).fewest(["a"], "back"), str(shown))

    def compare_large(self, seed, menus, rows, deepest, many):
        chance = random.Random(seed)
        whole = 0
        for _ in range(many):
            shown = some_board(chance, menus, rows)
            walk = Walk(shown, deepest)
            walk.states()
            whole += not walk.cut
            if walk.cut:
                self.compare_some(shown, walk)
            else:
                self.compare_calls(shown, walk, 0)
            self.compare_ways(shown, deepest, self.some_stacks(chance, shown, 1))
        self.assertGreater(whole, many // 4)

    def test_boards_of_four_menus(self):
        self.compare_large(15, 4, 5, 6, 80)

    def test_boards_of_six_menus(self):
        self.compare_large(16, 6, 5, 5, 100)
        self.compare_large(17, 6, 3, 6, 80)


if __name__ == "__main__":
    unittest.main()
