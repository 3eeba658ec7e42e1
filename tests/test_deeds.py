"""The six deeds of a board, done and refused, and calls of several deeds."""

import unittest

from flipthreads.boards import Board
from flipthreads.errors import (
    DuplicateName, Entangled, InvalidCounts, InvalidDeed, InvalidLine, InvalidName, InvalidPath, Misfit, NotThread,
    TooGreat, TooMany, Unflippable, UnknownName,
)
from flipthreads.loops import loop, ring
from flipthreads.sheets import Sheet
from flipthreads.weaves import Weave
from samples import (
    AROUND, FIRST, FULL_THREAD, GREAT_THREAD, NO_LINES, NO_LISTS, NO_NAMES, NOTHING, RING, SECOND, deep, looped, signed,
    state_of,
)

WORDS = {"draw": 3, "lay": 3, "join": 4, "flip": 2, "drop": 2, "rename": 3}


def filled(limit=8):
    """A board with three drawings; a and b can be laid apart, a and c cannot."""
    board = Board(Sheet.drum(5), limit=limit)
    board.apply(("draw", "a", FIRST), ("draw", "b", RING), ("draw", "c", SECOND))
    return board


class Refusing(unittest.TestCase):
    def refuse(self, board, deeds, error, **told):
        """A call raises an error with its attributes, and nothing is changed."""
        before = state_of(board)
        with self.assertRaises(error) as caught:
            board.apply(*deeds)
        self.assertIs(type(caught.exception), error)
        for name, value in told.items():
            self.assertEqual(getattr(caught.exception, name), value)
            self.assertIs(type(getattr(caught.exception, name)), type(value))
        self.assertEqual(state_of(board), before)


class Done(unittest.TestCase):
    def test_draw(self):
        board = Board(Sheet.drum(5))
        self.assertIsNone(board.apply(("draw", "a", FIRST)))
        self.assertEqual(board.weave("a"), loop(Sheet.drum(5), 1))
        self.assertIsNone(board.apply(("draw", "b", tuple(RING)), ("draw", "c", NOTHING)))
        self.assertEqual(board.names(), ["a", "b", "c"])
        self.assertEqual(board.weave("b"), ring(Sheet.drum(5), 0))
        self.assertEqual(board.weave("c"), Weave.empty(Sheet.drum(5)))

    def test_draw_very_great_counts(self):
        board = Board(Sheet.drum(5))
        counts = [count * 10 ** 29 for count in FIRST]
        board.apply(("draw", "a", counts), ("flip", 1))
        self.assertEqual(board.weave("a"), (loop(Sheet.drum(5), 1) * 10 ** 29).flipped(1))

    def test_lay(self):
        board = Board(Sheet.drum(5))
        self.assertIsNone(board.apply(("lay", "a", AROUND), ("lay", "b", tuple([-2] + AROUND + [2]))))
        self.assertEqual([board.weave(name).counts() for name in "ab"], [FIRST, FIRST])

    def test_join(self):
        board = filled()
        board.apply(("join", "d", "a", "b"))
        self.assertEqual(board.weave("d"), loop(Sheet.drum(5), 1) + ring(Sheet.drum(5), 0))
        board.apply(("join", "e", "d", "d"), ("join", "a", "a", "b"), ("join", "f", "b", "c"))
        self.assertEqual(board.weave("e"), board.weave("d") * 2)
        self.assertEqual(board.weave("a"), board.weave("d"))
        self.assertEqual(board.names(), ["a", "b", "c", "d", "e", "f"])

    def test_flip(self):
        for flip in signed(Sheet.drum(5)):
            board = filled()
            before = [board.weave(name) for name in board.names()]
            self.assertIsNone(board.apply(("flip", flip)))
            self.assertEqual(board.sheet, Sheet.drum(5).flipped(flip))
            self.assertEqual([board.weave(name) for name in board.names()], [weave.flipped(flip) for weave in before])
            board.apply(("flip", -flip))
            self.assertEqual(board, filled())

    def test_draw_on_a_flipped_sheet(self):
        board = filled()
        board.apply(("flip", 1), ("draw", "d", FIRST[:0] + [2, 1, 1, 1, 1, 0, 1, 1, 0]), ("flip", -1))
        self.assertEqual(board.weave("d").counts(), FIRST)

    def test_drop(self):
        board = filled()
        self.assertIsNone(board.apply(("drop", "b")))
        self.assertEqual(board.names(), ["a", "c"])
        board.apply(("drop", "a"), ("drop", "c"))
        self.assertEqual((board.names(), len(board)), ([], 0))

    def test_equal_drawings_are_dropped_one_by_one(self):
        board = Board(Sheet.drum(5))
        board.apply(("draw", "a", RING), ("draw", "b", RING), ("draw", "c", RING), ("drop", "b"))
        self.assertEqual(board.names(), ["a", "c"])

    def test_rename(self):
        board = filled()
        self.assertIsNone(board.apply(("rename", "b", "other")))
        self.assertEqual(board.names(), ["a", "other", "c"])
        self.assertEqual(board.weave("other").counts(), RING)
        board.apply(("rename", "other", "b"))
        self.assertEqual(board, filled())

    def test_names_that_get_another_drawing_keep_their_place(self):
        board = filled()
        board.apply(("draw", "a", SECOND), ("lay", "b", AROUND), ("join", "c", "a", "a"))
        self.assertEqual(board.names(), ["a", "b", "c"])
        expected = [SECOND, FIRST, [2 * count for count in SECOND]]
        self.assertEqual([board.weave(name).counts() for name in "abc"], expected)

    def test_a_dropped_name_comes_last_again(self):
        board = filled()
        board.apply(("drop", "a"), ("draw", "a", FIRST))
        self.assertEqual(board.names(), ["b", "c", "a"])

    def test_later_deeds_see_the_earlier_ones(self):
        board = Board(Sheet.drum(5), limit=1)
        board.apply(("draw", "a", FIRST), ("rename", "a", "b"), ("join", "b", "b", "b"), ("drop", "b"),
                    ("draw", "c", RING))
        self.assertEqual(board.names(), ["c"])
        self.assertEqual(board.history(), (1, 0))

    def test_passed_lists_may_be_changed(self):
        counts, path = list(FIRST), list(AROUND)
        board = Board(Sheet.drum(5))
        board.apply(("draw", "a", counts), ("lay", "b", path))
        counts[0] = 7
        path.clear()
        self.assertEqual([board.weave(name).counts() for name in "ab"], [FIRST, FIRST])


class Wrong(Refusing):
    def test_names_that_are_none(self):
        for wrong in NO_NAMES:
            for deed in (
                ("draw", wrong, FIRST), ("draw", wrong, None), ("lay", wrong, AROUND), ("lay", wrong, 0),
                ("join", wrong, "a", "b"), ("join", wrong, None, 1), ("rename", "a", wrong),
            ):
                self.refuse(filled(), [deed], InvalidName, name=wrong)
                self.refuse(filled(limit=3), [deed], InvalidName, name=wrong)

    def test_unknown_names(self):
        for wrong in NO_NAMES + ["d", "aa"]:
            for deed in (
                ("drop", wrong), ("rename", wrong, "d"), ("rename", wrong, "a"), ("rename", wrong, None),
                ("join", "d", wrong, "a"), ("join", "d", wrong, "e"), ("join", "d", "a", wrong),
            ):
                self.refuse(filled(), [deed], UnknownName, name=wrong)

    def test_new_names_beyond_the_limit(self):
        for deed in (("draw", "d", None), ("lay", "d", 0), ("join", "d", "x", "y"), ("draw", "d", FIRST)):
            self.refuse(filled(limit=3), [deed], TooMany, most=3)
        board = filled(limit=3)
        board.apply(("draw", "a", SECOND), ("lay", "b", AROUND), ("join", "c", "a", "a"), ("rename", "a", "d"))
        self.assertEqual(board.names(), ["d", "b", "c"])

    def test_more_drawings_than_the_limit(self):
        board = filled(limit=3)
        board.apply(("drop", "a"))
        board.limit = 2
        board.undo()
        self.assertEqual((len(board), board.limit), (3, 2))
        self.refuse(board, [("draw", "d", FIRST)], TooMany, most=2)
        self.refuse(board, [("drop", "b"), ("draw", "d", FIRST)], TooMany, most=2)
        board.apply(("draw", "a", RING))
        board.apply(("drop", "a"), ("drop", "b"), ("draw", "d", FIRST))
        self.assertEqual(board.names(), ["c", "d"])

    def test_wrong_counts(self):
        for wrong in NO_LISTS + [[], FIRST[:8], FIRST + [0], FIRST[:8] + [-2], FIRST[:8] + [None], FIRST[:8] + [False],
                                 FIRST[:8] + ["0"], [FIRST], deep(1, 10), [[0]] * 9, (True,) * 9]:
            self.refuse(filled(), [("draw", "a", wrong)], InvalidCounts)
            self.refuse(filled(), [("draw", "d", wrong)], InvalidCounts)
        self.refuse(filled(), [("draw", "d", [1] + [0] * 8)], Misfit, at=2)
        self.refuse(filled(), [("draw", "d", [0, 1] + [0] * 7)], Misfit, at=1)

    def test_counts_of_another_sheet(self):
        with self.assertRaises(Misfit) as caught:
            Weave(Sheet.drum(5).flipped(1), RING)
        self.refuse(filled(), [("flip", 1), ("draw", "d", RING)], Misfit, at=caught.exception.at)

    def test_wrong_paths(self):
        for wrong in NO_LISTS:
            self.refuse(filled(), [("lay", "d", wrong)], InvalidPath, at=0)
        for wrong in NO_LINES:
            self.refuse(filled(), [("lay", "a", AROUND + [wrong])], InvalidPath, at=6)
        self.refuse(filled(), [("lay", "d", [2, 4])], InvalidPath, at=0)
        self.refuse(filled(), [("lay", "d", [2, 5, -3, 7, 8])], InvalidPath, at=2)

    def test_paths_that_cannot_be_laid(self):
        for path in ([], (), [1, -1], AROUND * 2, AROUND + [-x for x in AROUND[::-1]]):
            self.refuse(filled(), [("lay", "d", path)], NotThread)
            self.refuse(filled(), [("lay", "a", path)], NotThread)

    def test_entangled_drawings(self):
        self.refuse(filled(), [("join", "d", "a", "c")], Entangled, first="a", second="c")
        self.refuse(filled(), [("join", "d", "c", "a")], Entangled, first="c", second="a")
        self.refuse(filled(), [("join", "a", "a", "c")], Entangled, first="a", second="c")

    def test_sums_that_are_too_great(self):
        board = Board(Sheet.drum(5))
        board.apply(("draw", "a", [1250 * count for count in RING]), ("draw", "b", NOTHING), ("draw", "c", RING),
                    ("draw", "d", GREAT_THREAD), ("draw", "e", FULL_THREAD))
        board.apply(("join", "f", "a", "b"), ("join", "g", "e", "b"))
        for one, other in ("ac", "ca", "aa", "bd", "db", "dd", "ec"):
            self.refuse(board, [("join", "h", one, other)], TooGreat, most=5000)

    def test_wrong_lines(self):
        for wrong in NO_LINES:
            self.refuse(filled(), [("flip", wrong)], InvalidLine, given=wrong)

    def test_refused_flips(self):
        board = Board(looped())
        board.apply(("draw", "a", loop(looped(), 2).counts()))
        for line in (3, 5, 6, 7, -3, -5, -6, -7):
            self.refuse(board, [("flip", line)], Unflippable, at=0)
            self.refuse(board, [("flip", 1), ("flip", -1), ("flip", line)], Unflippable, at=0)

    def test_names_that_are_there(self):
        for fresh in ("a", "b", "c"):
            self.refuse(filled(), [("rename", "a", fresh)], DuplicateName, name=fresh)

    def test_the_first_listed_error_is_raised(self):
        full = filled(limit=3)
        self.refuse(full, [("draw", "A", None)], InvalidName, name="A")
        self.refuse(full, [("draw", "d", None)], TooMany, most=3)
        self.refuse(full, [("lay", "", 0)], InvalidName, name="")
        self.refuse(full, [("lay", "d", [0])], TooMany, most=3)
        self.refuse(full, [("join", None, "x", "y")], InvalidName, name=None)
        self.refuse(full, [("join", "d", "x", "y")], TooMany, most=3)
        self.refuse(full, [("join", "a", "x", "y")], UnknownName, name="x")
        self.refuse(full, [("join", "a", "b", "y")], UnknownName, name="y")
        self.refuse(full, [("rename", "x", "A")], UnknownName, name="x")
        self.refuse(full, [("rename", "a", "A")], InvalidName, name="A")
        great = Board(Sheet.drum(5))
        great.apply(("draw", "a", [10 ** 4 * count for count in FIRST]), ("draw", "b", SECOND))
        self.refuse(great, [("join", "c", "a", "b")], TooGreat, most=5000)


class Deeds(Refusing):
    def test_values_that_are_no_deed(self):
        wrong = [None, True, 0, 1, "draw", "", [], (), ["flip", 1], ("Flip", 1), ("flip",), ("flip", 1, 2), (1, 2),
                 (None, 1), (("flip",), 1), (["flip"], 1), (True,), ("undo",), ("", 1), ("flip ", 1), (("flip", 1),),
                 deep("flip", 10), (b"flip", 1)]
        for value in wrong:
            self.refuse(filled(), [value], InvalidDeed, at=0)
            self.refuse(filled(), [("flip", 1), value], InvalidDeed, at=1)
            self.refuse(filled(), [("flip", 0), ("drop", "x"), value, value], InvalidDeed, at=2)

    def test_numbers_of_items(self):
        for word, size in WORDS.items():
            for many in range(1, 6):
                deed = (word,) + ("a",) * (many - 1)
                if many != size:
                    self.refuse(filled(), [deed], InvalidDeed, at=0)
                    continue
                try:
                    filled().apply(deed)
                except (InvalidCounts, InvalidPath, InvalidLine, DuplicateName) as error:
                    self.assertIn((word, error.code), [
                        ("draw", "InvalidCounts"), ("lay", "InvalidPath"), ("flip", "InvalidLine"),
                        ("rename", "DuplicateName"),
                    ])

    def test_all_deeds_are_looked_at_first(self):
        self.refuse(filled(), [("draw", "A", None), ("flip", "x"), ("drop",)], InvalidDeed, at=2)
        self.refuse(filled(), [["a"], ("drop",)], InvalidDeed, at=0)

    def test_a_late_deed_is_refused(self):
        good = [("draw", "d", SECOND), ("lay", "e", AROUND), ("join", "f", "a", "b"), ("drop", "c"),
                ("rename", "a", "g"), ("flip", 1), ("flip", 5)]
        for deed, error in (
            (("draw", "d", [1]), InvalidCounts), (("lay", "d", [1]), InvalidPath),
            (("join", "h", "x", "d"), UnknownName), (("flip", 0), InvalidLine), (("drop", "a"), UnknownName),
            (("rename", "g", "b"), DuplicateName),
            (("draw", "H", NOTHING), InvalidName), (("lay", "h", []), NotThread), (("drop", "c"), UnknownName),
        ):
            board = filled()
            board.threads_of("a")
            board.apply(("drop", "b"))
            board.undo()
            before = [(name, board.weave(name)) for name in board.names()]
            self.refuse(board, good + [deed], error)
            self.assertEqual([(name, board.weave(name)) for name in board.names()], before)
            self.assertEqual(board.history(), (1, 1))
            board.apply(*good)
            self.assertEqual(board.names(), ["g", "b", "d", "e", "f"])
            self.assertEqual(board.history(), (2, 0))

    def test_the_deeds_raise_their_errors_in_order(self):
        self.refuse(filled(), [("drop", "x"), ("drop", "y"), ("flip", 0)], UnknownName, name="x")
        self.refuse(filled(), [("drop", "a"), ("drop", "a"), ("flip", 0)], UnknownName, name="a")
        self.refuse(filled(), [("flip", 0), ("drop", "y")], InvalidLine, given=0)

    def test_busy_is_false_after_each_call(self):
        board = filled()
        self.assertIs(board.busy, False)
        for deeds in ([], [("flip", 1)], [("flip", 0)], [("flip",)], [("draw", "a", [1])], [("flip", 2), None]):
            try:
                board.apply(*deeds)
            except ValueError:
                pass
            self.assertIs(board.busy, False)

    def test_busy_is_true_while_deeds_are_done(self):
        met = []

        class Watching(list):
            def __len__(self):
                met.append(board.busy)
                return list.__len__(self)

        board = filled()
        board.apply(("draw", "d", Watching(FIRST)))
        self.assertRaises(InvalidCounts, board.apply, ("draw", "d", Watching([1])))
        self.assertEqual((set(met), board.busy), ({True}, False))

    def test_many_deeds_in_one_call(self):
        board = Board(Sheet.drum(5))
        board.apply(*[("flip", 1), ("flip", -1)] * 200)
        self.assertEqual((board.sheet, board.history()), (Sheet.drum(5), (1, 0)))


if __name__ == "__main__":
    unittest.main()
