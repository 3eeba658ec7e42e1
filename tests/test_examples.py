"""The examples at the end of the document."""

import unittest

from flipthreads.boards import Board
from flipthreads.desk import Desk
from flipthreads.errors import InvalidLimit, InvalidPath, Misfit
from flipthreads.loops import loop, ring
from flipthreads.meetings import meet
from flipthreads.moves import half_turn
from flipthreads.paths import lay, tight
from flipthreads.sheets import Sheet
from flipthreads.sides import rooms, sides
from flipthreads.splits import split
from flipthreads.walks import word
from flipthreads.weaves import Weave


class Examples(unittest.TestCase):
    def test_triangles_of_the_drum(self):
        sheet = Sheet.drum(5)
        expected = [(-3, 9, -7), (-2, 8, -9), (-1, 7, -8), (1, 5, -4), (2, 6, -5), (3, 4, -6)]
        self.assertEqual(sheet.triangles(), expected)

    def test_turns_ends_and_sides(self):
        sheet = Sheet.drum(5)
        found = [sheet.turns(1), sheet.ends(-4), sheet.sides(1)]
        self.assertEqual(found, [[1, 4, -3, 7], (3, 0), (7, -8, 5, -4)])

    def test_a_flip(self):
        sheet = Sheet.drum(5)
        self.assertEqual(sheet.flipped(1).triangle(1), (1, -4, 7))

    def test_the_repr_of_a_sheet(self):
        self.assertEqual(repr(Sheet.drum(5)), "Sheet(5 nails, 9 lines)")

    def test_counts_that_do_not_fit(self):
        sheet = Sheet.drum(5)
        with self.assertRaises(Misfit) as caught:
            Weave(sheet, [1, 0, 0, 0, 0, 0, 0, 0, 0])
        self.assertEqual(caught.exception.at, 2)

    def test_a_ring_and_a_loop(self):
        sheet = Sheet.drum(5)
        found = [ring(sheet, 0).counts(), loop(sheet, 1).counts()]
        self.assertEqual(found, [[1, 0, 1, 1, 0, 0, 1, 0, 0], [0, 1, 1, 1, 1, 0, 1, 1, 0]])

    def test_a_flip_of_a_weave(self):
        sheet = Sheet.drum(5)
        self.assertEqual(loop(sheet, 1).flipped(1).counts(), [2, 1, 1, 1, 1, 0, 1, 1, 0])

    def test_a_split(self):
        sheet = Sheet.drum(5)
        pairs = split(loop(sheet, 1) + loop(sheet, 2))
        found = [(thread.counts(), times) for thread, times in pairs]
        self.assertEqual(found, [([0, 0, 2, 1, 1, 1, 1, 1, 1], 1), ([1, 1, 0, 0, 1, 0, 0, 1, 0], 1)])

    def test_a_word(self):
        sheet = Sheet.drum(5)
        self.assertEqual(word(loop(sheet, 1)), (-8, -7, 3, -4, -5, -2))

    def test_sides_and_rooms(self):
        sheet = Sheet.drum(5)
        found = [sides(loop(sheet, 1)), rooms(loop(sheet, 1) + loop(sheet, 2))]
        self.assertEqual(found, [([0, 1], [2, 3, 4]), [[0, 2], [1], [3, 4]]])

    def test_paths(self):
        sheet = Sheet.drum(5)
        path = [2, 5, 4, -3, 7, 8]
        told = [lay(sheet, path).told(), lay(sheet, path + path).told(), lay(sheet, [1, -1]).told()]
        self.assertEqual([tight(sheet, path)] + told, [(-3, 7, 8, 2, 5, 4), "laid", "crossed", "gone"])

    def test_a_wrong_path(self):
        with self.assertRaises(InvalidPath) as caught:
            lay(Sheet.drum(5), [2, 4])
        self.assertEqual(caught.exception.at, 0)

    def test_meetings(self):
        sheet = Sheet.drum(5)
        found = meet(loop(sheet, 1), loop(sheet, 2))
        told = [found.told(), found.stranger.counts(), meet(loop(sheet, 1), ring(sheet, 1)).apart]
        self.assertEqual(told, ["crossing", [0, 0, 2, 1, 1, 1, 1, 1, 1], True])

    def test_a_half_turn(self):
        move = half_turn(Sheet.drum(5), 1)
        found = [move.flips(), move.renaming(), move.goals()]
        self.assertEqual(found, [[4, 8, 3, 2], [-1, 5, -7, -3, 4, 6, 8, 2, 9], [1, 0, 2, 3, 4]])

    def test_a_board(self):
        board = Board(Sheet.drum(5))
        board.apply(("lay", "a", (2, 5, 4, -3, 7, 8)), ("flip", 1))
        found = [board.weave("a").counts(), len(board.threads_of("a")), board.computed, board.history()]
        self.assertEqual(found, [[2, 1, 1, 1, 1, 0, 1, 1, 0], 1, 1, (1, 0)])

    def test_a_desk(self):
        desk = Desk(Board(Sheet.drum(5)))
        lines = ["lay a 2,5,4,-3,7,8", "draw b 1,0,1,1,0,0,1,0,0", "apart a b", "rooms a", "flip 0", "flip"]
        expected = ["done", "done", "yes", "0,1 2,3,4", "error InvalidLine", "unknown"]
        self.assertEqual([desk(line) for line in lines], expected)

    def test_a_limit(self):
        board = Board(Sheet.drum(5))
        board.limit = 3
        self.assertEqual([board.limit, board.set_limit(5), board.limit], [3, None, 5])

    def test_a_wrong_limit(self):
        with self.assertRaises(InvalidLimit) as caught:
            Board(Sheet.drum(5)).set_limit(0)
        self.assertEqual(caught.exception.given, 0)

    def test_the_repr_of_a_weave(self):
        self.assertEqual(repr(loop(Sheet.drum(5), 1) * 2), "Weave(12 crossings)")


if __name__ == "__main__":
    unittest.main()
