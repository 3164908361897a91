"""The examples that the document shows, and those of the README."""

import doctest
import pathlib
import unittest

from menuhome.boards import Board
from menuhome.calls import play
from menuhome.comparing import alike, heaps
from menuhome.deciding import beneath, caught, comes, fewest, never, silence, way
from menuhome.desk import Desk
from menuhome.hearts import by_heart, hearts
from menuhome.late import astray
from menuhome.mending import mends, needless
from menuhome.papers import paper, paper_holds
from samples import LINES

README = pathlib.Path(__file__).parent.parent / "README.md"


class Examples(unittest.TestCase):
    def setUp(self):
        self.board = Board.read("\n".join(LINES))

    def test_overview(self):
        board = self.board
        self.assertEqual(
            (fewest(board, ["top"], "desk"), fewest(board, ["pay", "top"], "desk"), fewest(board, ["ask"], "desk"),
             caught(board)),
            (1, 1, None, ("ask", "bye")),
        )
        self.assertEqual(
            (silence(board, ["top"]), silence(board, ["pay", "top"]), silence(board, ["bye"]), astray(board)),
            ("round", "round", "out", (("pay", "1", "bye"),)),
        )

    def test_board(self):
        board = self.board
        self.assertEqual(
            (board.names, board.lines, board.menu("pay").action("2"), str(board.menu("ask")).split("\n")[0]),
            (("top", "pay", "ask", "bye"), ("cash", "desk"), "back", "menu ask tries 1 clear"),
        )

    def test_calls(self):
        board = self.board
        one, two = play(board, ["1", "-1"]), play(board, ["13"])
        self.assertEqual(
            (one.stack, one.tries, one.end, one.presses, one.started),
            (("bye",), 1, None, 2, ("top", "pay", "bye", "bye")),
        )
        three, four, five = play(board, ["5", "-3"]), play(board, ["29", "-"]), play(board, ["12"])
        self.assertEqual(
            (two.stack, two.tries, three.end, four.end, five.stack), (("bye",), 1, "desk", "out", ("bye",))
        )

    def test_deciding(self):
        board = self.board
        self.assertEqual(
            (play(board, way(board, "cash")).presses, never(board), comes(board), beneath(board, "pay"),
             beneath(board, "bye")),
            (2, (), ("ask", "bye", "pay", "top"), ("bye",), ("",)),
        )

    def test_hearts(self):
        board = self.board
        self.assertEqual(
            (by_heart(board, "cash"), by_heart(board, "desk"), hearts(board.having("top", "1", "go ask")),
             len(by_heart(board.having("pay", "1", "call bye top"), "desk"))),
            ("11", "3", ("desk",), 1),
        )

    def test_papers(self):
        board = self.board
        told = paper(board, "cash")
        self.assertEqual(
            (paper_holds(board, "cash", 2, told), paper_holds(board, "cash", 3, told),
             paper_holds(board, "cash", 2, told[1:])),
            (True, False, False),
        )

    def test_mending_and_comparing(self):
        board = self.board
        twin = Board.read(str(board) + "\nmenu twin tries 1\n2 back\n1 line cash\nelse back")
        self.assertEqual(
            (heaps(twin), alike(twin, "pay", "bye"), needless(board), mends(board)),
            ((("top",), ("pay", "twin"), ("ask",), ("bye",)), False,
             (("ask", "1"), ("bye", "1"), ("bye", "9"), ("pay", "2"), ("top", "2")), ()),
        )

    def test_desk(self):
        desk = Desk()
        self.assertEqual(
            (desk.say("board " + " ; ".join(LINES)), desk.say("do 1"), desk.say("silence"), desk.say("do 1"),
             desk.say("presses"), desk.say("fewest cash"), desk.say("caught")),
            ("4", "pay bye", "out", "cash", "2", "2", "ask bye"),
        )

    def test_readme(self):
        failed, tried = doctest.testfile(str(README), module_relative=False)
        self.assertEqual(failed, 0)
        self.assertGreater(tried, 0)


if __name__ == "__main__":
    unittest.main()
