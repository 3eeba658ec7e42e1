"""Boards: their limit, names, history, twins and equality."""

import unittest

from flipthreads.boards import Board
from flipthreads.errors import InvalidLimit, NothingLeft, TooMany, UnknownName
from flipthreads.loops import loop, ring
from flipthreads.sheets import Sheet
from flipthreads.weaves import Weave
from samples import AROUND, FIRST, NO_NAMES, NO_NUMBERS, NOTHING, RING, SECOND, drums, looped, state_of

NO_LIMITS = NO_NUMBERS + [0, -1, 21, 22, 10 ** 29, -10 ** 29]


def filled(limit=8):
    board = Board(Sheet.drum(5), limit=limit)
    board.apply(("draw", "a", FIRST), ("draw", "b", RING), ("draw", "c", SECOND))
    return board


def letters(many):
    return [chr(97 + k) for k in range(many)]


class Making(unittest.TestCase):
    def test_a_new_board(self):
        for sheet in drums() + [looped()]:
            board = Board(sheet)
            self.assertEqual(state_of(board), (sheet, [], [], 8, False, 0, [], (0, 0), 0))
            self.assertEqual(repr(board), f"Board({sheet.nails} nails, 0 drawings)")
        self.assertEqual(Board.MOST, 20)
        self.assertEqual(Board(sheet=Sheet.drum(5), limit=3).limit, 3)
        self.assertRaises(TypeError, Board, Sheet.drum(5), 3)

    def test_limits(self):
        for limit in range(1, 21):
            self.assertEqual(Board(Sheet.drum(5), limit=limit).limit, limit)
        for wrong in NO_LIMITS:
            with self.assertRaises(InvalidLimit) as caught:
                Board(Sheet.drum(5), limit=wrong)
            self.assertIs(caught.exception.given, wrong)

    def test_repr(self):
        board = filled()
        self.assertEqual(repr(board), "Board(5 nails, 3 drawings)")
        board.apply(("drop", "a"), ("drop", "b"))
        self.assertEqual(repr(board), "Board(5 nails, 1 drawings)")


class Limits(unittest.TestCase):
    def test_both_ways(self):
        for wrong in NO_LIMITS:
            board = filled()
            with self.assertRaises(InvalidLimit) as caught:
                board.limit = wrong
            self.assertIs(caught.exception.given, wrong)
            with self.assertRaises(InvalidLimit) as caught:
                board.set_limit(wrong)
            self.assertIs(caught.exception.given, wrong)
            self.assertEqual(board.limit, 8)
        for limit in range(3, 21):
            board.limit = limit
            self.assertEqual(board.limit, limit)
            self.assertIsNone(board.set_limit(value=limit))
            self.assertEqual(board.limit, limit)

    def test_not_below_the_number_of_drawings(self):
        board = filled()
        for limit in (1, 2):
            self.assertRaises(InvalidLimit, board.set_limit, limit)
            with self.assertRaises(InvalidLimit) as caught:
                board.limit = limit
            self.assertEqual((caught.exception.given, board.limit), (limit, 8))
        board.limit = 3
        board.apply(("drop", "a"))
        board.set_limit(2)
        self.assertEqual(board.limit, 2)

    def test_as_many_as_the_limit(self):
        for limit in (1, 8, 20):
            board = Board(Sheet.drum(5), limit=limit)
            for name in letters(limit):
                board.apply(("draw", name, RING))
            with self.assertRaises(TooMany) as caught:
                board.apply(("draw", "z", RING))
            self.assertEqual((caught.exception.most, len(board)), (limit, limit))

    def test_no_step_of_the_history(self):
        board = filled()
        board.undo()
        board.limit = 5
        self.assertEqual(board.history(), (0, 1))
        board.redo()
        self.assertEqual(board.limit, 5)
        board.undo()
        self.assertEqual(board.limit, 5)

    def test_undo_and_redo_do_not_check_the_limit(self):
        board = filled(limit=3)
        board.undo()
        board.limit = 1
        board.redo()
        self.assertEqual((len(board), board.limit), (3, 1))
        self.assertRaises(InvalidLimit, board.set_limit, 2)
        board.apply(("drop", "a"), ("drop", "b"))
        board.undo()
        self.assertEqual((board.names(), board.limit), (["a", "b", "c"], 1))


class Asking(unittest.TestCase):
    def test_names_and_weaves(self):
        board = filled()
        self.assertEqual(board.names(), ["a", "b", "c"])
        self.assertEqual(board.weave("a"), loop(Sheet.drum(5), 1))
        self.assertEqual(board.weave(name="b"), ring(Sheet.drum(5), 0))
        self.assertIs(type(board.weave("a")), Weave)

    def test_unknown_names(self):
        board = filled()
        board.apply(("drop", "c"))
        for wrong in NO_NAMES + ["c", "d", "aa"]:
            for call in (board.weave, board.threads_of):
                with self.assertRaises(UnknownName) as caught:
                    call(wrong)
                self.assertIs(caught.exception.name, wrong)
            self.assertIs(wrong in board, False)

    def test_names_in_a_board(self):
        board = filled()
        self.assertEqual(["a" in board, "b" in board, "c" in board, "d" in board], [True, True, True, False])
        board.apply(("rename", "a", "d"))
        self.assertEqual(["a" in board, "d" in board], [False, True])
        self.assertIs(FIRST in board, False)
        self.assertIs(loop(Sheet.drum(5), 1) in board, False)

    def test_length(self):
        board = filled()
        self.assertEqual(len(board), 3)
        board.apply(("draw", "a", NOTHING))
        self.assertEqual(len(board), 3)
        board.apply(("drop", "b"))
        self.assertEqual(len(board), 2)

    def test_returned_lists_may_be_changed(self):
        board = filled()
        board.threads_of("a")
        for found in (board.names(), board.kept(), board.threads_of("a"), board.weave("a").counts()):
            found.clear()
        self.assertEqual((board.names(), board.kept(), len(board.threads_of("a"))), (["a", "b", "c"], ["a"], 1))

    def test_properties_are_not_assigned(self):
        board = filled()
        for name in ("sheet", "busy", "computed"):
            with self.assertRaises(AttributeError):
                setattr(board, name, None)


class Equality(unittest.TestCase):
    def test_equal_boards(self):
        board = filled()
        self.assertTrue(board == filled())
        self.assertFalse(board != filled())
        other = Board(Sheet.drum(5), limit=20)
        other.apply(("lay", "a", AROUND))
        other.apply(("draw", "b", RING), ("draw", "d", SECOND))
        other.apply(("rename", "d", "c"))
        other.threads_of("a")
        self.assertTrue(board == other)
        self.assertTrue(Board(Sheet.drum(7)) == Board(Sheet.drum(7), limit=1))

    def test_unlike_boards(self):
        board = filled()
        for deeds in (
            [("drop", "a")], [("draw", "d", RING)], [("rename", "a", "d")], [("draw", "a", RING)],
            [("flip", 1)], [("drop", "a"), ("draw", "a", FIRST)], [("flip", 1), ("flip", 1)],
        ):
            other = filled()
            other.apply(*deeds)
            self.assertTrue(board != other)
            self.assertFalse(board == other)
        again = Board(Sheet(Sheet.drum(5).triangles(), order=[1, 0, 2, 3, 4]))
        self.assertFalse(Board(Sheet.drum(5)) == again)
        self.assertFalse(Board(Sheet.drum(5)) == Board(Sheet.drum(6)))

    def test_a_board_equals_nothing_else(self):
        board = Board(Sheet.drum(5))
        for other in (None, 0, "", [], (), Sheet.drum(5), Weave.empty(Sheet.drum(5)), repr(board), object()):
            self.assertFalse(board == other)
            self.assertTrue(board != other)


class History(unittest.TestCase):
    def test_nothing_left(self):
        board = Board(Sheet.drum(5))
        self.assertRaises(NothingLeft, board.undo)
        self.assertRaises(NothingLeft, board.redo)
        board.apply(("flip", 1))
        self.assertRaises(NothingLeft, board.redo)
        board.undo()
        self.assertRaises(NothingLeft, board.undo)
        self.assertEqual(board.history(), (0, 1))
        board.redo()
        self.assertRaises(NothingLeft, board.redo)
        self.assertEqual((board.history(), board.sheet), ((1, 0), Sheet.drum(5).flipped(1)))

    def test_undo_and_redo_over_each_deed(self):
        steps = [
            [("draw", "a", FIRST)], [("draw", "a", SECOND), ("draw", "b", RING)], [("lay", "c", AROUND)],
            [("join", "d", "a", "b")], [("flip", 1)], [("flip", 5), ("flip", -6)], [("drop", "b")],
            [("rename", "a", "e")], [("draw", "e", NOTHING), ("flip", 9), ("drop", "c"), ("rename", "d", "c")],
            [("flip", 9), ("flip", -9)],
        ]
        board, met = Board(Sheet.drum(5)), []
        for step in steps:
            met.append(board.twin())
            self.assertIsNone(board.apply(*step))
        met.append(board.twin())
        for at in reversed(range(len(steps))):
            self.assertIsNone(board.undo())
            self.assertEqual(board, met[at])
            self.assertEqual(board.history(), (at, len(steps) - at))
        for at in range(len(steps)):
            self.assertIsNone(board.redo())
            self.assertEqual(board, met[at + 1])
            self.assertEqual(board.history(), (at + 1, len(steps) - at - 1))

    def test_calls_without_deeds(self):
        board = filled()
        board.undo()
        self.assertIsNone(board.apply())
        self.assertEqual(board.history(), (0, 1))
        board.redo()
        self.assertEqual(board, filled())

    def test_a_new_step_behind_an_undo(self):
        board = filled()
        board.apply(("drop", "a"))
        board.undo()
        board.undo()
        self.assertEqual(board.history(), (0, 2))
        board.apply(("draw", "d", RING))
        self.assertEqual(board.history(), (1, 0))
        self.assertRaises(NothingLeft, board.redo)
        self.assertEqual(board.names(), ["d"])

    def test_refused_calls_leave_the_steps(self):
        board = filled()
        board.apply(("drop", "a"))
        board.undo()
        for deeds in ([("drop", "x")], [("flip", 0)], [None], [("drop", "a"), ("drop", "a")]):
            self.assertRaises((ValueError, LookupError), board.apply, *deeds)
            self.assertEqual(board.history(), (1, 1))
        board.redo()
        self.assertEqual(board.names(), ["b", "c"])

    def test_steps_that_change_nothing_count(self):
        board = filled()
        board.apply(("flip", 1), ("flip", -1))
        board.apply(("draw", "a", FIRST))
        self.assertEqual((board, board.history()), (filled(), (3, 0)))

    def test_many_steps(self):
        board = filled()
        before = board.twin()
        for at in range(300):
            board.apply(("flip", at % 3 + 1 if at % 2 else -(at % 3 + 1)))
        for _ in range(300):
            board.undo()
        self.assertEqual((board, board.history()), (before, (1, 300)))

    def test_the_kind_of_the_pair(self):
        self.assertIs(type(filled().history()), tuple)


class Twins(unittest.TestCase):
    def test_the_same_in_all(self):
        board = filled(limit=5)
        board.apply(("flip", 1))
        board.threads_of("b")
        board.apply(("drop", "a"))
        board.undo()
        twin = board.twin()
        self.assertIs(type(twin), Board)
        self.assertEqual(twin, board)
        self.assertEqual(state_of(twin), state_of(board))

    def test_they_go_on_by_themselves(self):
        board = filled()
        board.apply(("drop", "c"))
        board.undo()
        twin, before = board.twin(), state_of(board)
        twin.apply(("draw", "d", RING), ("flip", 1))
        twin.threads_of("a")
        twin.limit = 20
        twin.undo()
        twin.undo()
        self.assertEqual(state_of(board), before)
        other, before = board.twin(), state_of(twin)
        board.redo()
        board.threads_of("b")
        board.set_limit(4)
        board.apply(("rename", "b", "z"))
        self.assertEqual(state_of(twin), before)
        self.assertEqual((other, other.history()), (filled(), (1, 1)))

    def test_new_drawings_in_both(self):
        board = filled()
        twin = board.twin()
        board.apply(("draw", "d", RING))
        twin.apply(("draw", "d", SECOND))
        board.threads_of("d")
        self.assertEqual((board.kept(), twin.kept(), twin.computed), (["d"], [], 0))
        self.assertEqual([thread.counts() for thread, _ in twin.threads_of("d")], [SECOND])

    def test_history_of_a_twin(self):
        board = filled()
        board.apply(("flip", 1))
        board.apply(("drop", "a"))
        board.undo()
        twin = board.twin()
        twin.redo()
        self.assertEqual(twin.names(), ["b", "c"])
        twin.undo()
        twin.undo()
        twin.undo()
        self.assertEqual((twin.names(), twin.sheet, twin.history()), ([], Sheet.drum(5), (0, 3)))
        self.assertEqual(board.history(), (2, 1))


if __name__ == "__main__":
    unittest.main()
