"""Which threads a board keeps and computes; boards beside a plain model over many steps."""

import unittest

from flipthreads.boards import Board
from flipthreads.errors import Missing, NothingLeft, ThreadError, TooGreat, UnknownName
from flipthreads.loops import loop, ring
from flipthreads.sheets import Sheet
from flipthreads.splits import split
from flipthreads.weaves import Weave
from samples import AROUND, FIRST, FULL_THREAD, GREAT_THREAD, NOTHING, RING, SECOND, looped, signed


def filled():
    board = Board(Sheet.drum(5))
    board.apply(("draw", "a", FIRST), ("draw", "b", RING), ("draw", "c", SECOND))
    return board


class Keeping(unittest.TestCase):
    def check(self, board, kept, computed):
        self.assertEqual((board.kept(), board.computed), (kept, computed))
        for name in kept:
            self.assertEqual(board.threads_of(name), split(board.weave(name)))
        self.assertEqual((board.kept(), board.computed), (kept, computed))

    def test_threads_are_the_split(self):
        board = filled()
        board.apply(("draw", "d", [2 * a + 3 * b for a, b in zip(FIRST, RING)]))
        sheet = Sheet.drum(5)
        self.assertEqual(board.threads_of("d"), [(loop(sheet, 1), 2), (ring(sheet, 0), 3)])
        self.assertEqual(board.threads_of(name="d"), split(board.weave("d")))
        self.assertIs(type(board.threads_of("d")), list)
        self.assertIs(type(board.threads_of("d")[0]), tuple)
        board.apply(("draw", "e", NOTHING))
        self.assertEqual(board.threads_of("e"), [])
        self.check(board, ["d", "e"], 2)

    def test_threads_are_computed_once(self):
        board = filled()
        self.check(board, [], 0)
        for _ in range(3):
            board.threads_of("b")
        self.check(board, ["b"], 1)
        board.threads_of("a")
        self.check(board, ["a", "b"], 2)

    def test_kept_names_are_ascending(self):
        board = Board(Sheet.drum(5))
        for name in ("z", "b", "aa", "a"):
            board.apply(("draw", name, RING))
            board.threads_of(name)
        self.check(board, ["a", "aa", "b", "z"], 4)

    def test_flips_carry_the_threads(self):
        board = filled()
        board.apply(("join", "d", "a", "b"), ("draw", "e", [a + b for a, b in zip(FIRST, SECOND)]))
        for name in "abcde":
            board.threads_of(name)
        for flip in (1, 5, -2, 9, 7, 9, -7, 3, 3, 8, -1):
            if board.sheet.can_flip(flip):
                board.apply(("flip", flip))
                self.check(board, ["a", "b", "c", "d", "e"], 5)
                for name in "abcde":
                    counts = [thread.counts() for thread, _ in board.threads_of(name)]
                    self.assertEqual(counts, sorted(counts))

    def test_the_order_of_the_pairs_follows_the_flips(self):
        board = filled()
        board.apply(("draw", "d", [a + b + c for a, b, c in zip(RING, FIRST, Weave(Sheet.drum(5), RING).counts())]))
        board.threads_of("d")
        changed = 0
        for flip in signed(board.sheet):
            before = [thread.flipped(flip) for thread, _ in board.threads_of("d")]
            board.apply(("flip", flip))
            found = [thread for thread, _ in board.threads_of("d")]
            changed += found != before
            self.assertEqual(board.threads_of("d"), split(board.weave("d")))
            board.undo()
        self.assertGreater(changed, 0)

    def test_renames_keep_the_threads(self):
        board = filled()
        board.threads_of("a")
        board.apply(("rename", "a", "z"), ("rename", "b", "a"))
        self.check(board, ["z"], 1)
        board.undo()
        self.check(board, ["a"], 1)
        board.redo()
        self.check(board, ["z"], 1)

    def test_new_drawings_have_no_threads_yet(self):
        board = filled()
        for deed in (("draw", "a", FIRST), ("lay", "a", AROUND), ("join", "a", "a", "b")):
            board.threads_of("a")
            before = board.computed
            board.apply(deed)
            self.check(board, [], before)
        board.threads_of("a")
        self.check(board, ["a"], 4)

    def test_drops_and_undo(self):
        board = filled()
        board.threads_of("a")
        board.apply(("drop", "a"), ("flip", 1))
        self.check(board, [], 1)
        board.apply(("draw", "a", [2, 1, 1, 1, 1, 0, 1, 1, 0]))
        self.check(board, [], 1)
        board.threads_of("a")
        self.check(board, ["a"], 2)
        board.undo()
        self.check(board, [], 2)
        board.undo()
        self.check(board, ["a"], 2)
        board.redo()
        board.redo()
        self.check(board, ["a"], 2)

    def test_undo_brings_back_the_very_drawing(self):
        board = filled()
        board.threads_of("a")
        board.apply(("draw", "a", SECOND))
        self.check(board, [], 1)
        board.apply(("flip", 1), ("flip", 5))
        board.undo()
        board.undo()
        self.check(board, ["a"], 1)
        board.redo()
        self.check(board, [], 1)
        board.threads_of("a")
        self.check(board, ["a"], 2)

    def test_redo_brings_back_the_very_drawing(self):
        board = Board(Sheet.drum(5))
        board.apply(("draw", "a", FIRST), ("flip", 1))
        board.threads_of("a")
        board.undo()
        self.check(board, [], 1)
        board.redo()
        self.check(board, ["a"], 1)
        board.undo()
        board.apply(("draw", "a", FIRST), ("flip", 1))
        self.check(board, [], 1)

    def test_threads_asked_while_flipped_are_carried_back(self):
        board = filled()
        board.apply(("flip", 1), ("flip", 5), ("flip", -6))
        board.threads_of("a")
        board.threads_of("c")
        board.undo()
        self.check(board, ["a", "c"], 2)
        board.undo()
        self.check(board, [], 2)
        board.redo()
        board.redo()
        self.check(board, ["a", "c"], 2)

    def test_a_dropped_drawing_that_was_flipped_meanwhile(self):
        board = filled()
        board.apply(("flip", 1))
        board.threads_of("a")
        board.apply(("flip", 5), ("drop", "a"), ("flip", -6))
        board.threads_of("b")
        board.undo()
        self.check(board, ["a", "b"], 2)
        board.undo()
        self.check(board, ["a", "b"], 2)

    def test_joins_ask_for_no_threads(self):
        board = filled()
        board.apply(("join", "d", "a", "b"))
        self.check(board, [], 0)
        board.threads_of("a")
        board.apply(("join", "e", "a", "a"))
        self.check(board, ["a"], 1)

    def test_refused_deeds_keep_what_is_kept(self):
        board = filled()
        board.threads_of("a")
        self.assertRaises(UnknownName, board.apply, ("flip", 1), ("draw", "a", FIRST), ("drop", "x"))
        self.check(board, ["a"], 1)

    def test_unknown_names_compute_nothing(self):
        board = filled()
        self.assertRaises(UnknownName, board.threads_of, "x")
        self.check(board, [], 0)

    def test_totals_that_are_too_great(self):
        board = Board(Sheet.drum(5))
        board.apply(("draw", "a", GREAT_THREAD), ("draw", "b", FULL_THREAD))
        board.apply(("draw", "c", [10 ** 29 * count for count in RING]))
        for name in "ac":
            with self.assertRaises(TooGreat) as caught:
                board.threads_of(name)
            self.assertEqual(caught.exception.most, 5000)
            self.check(board, [], 0)
        self.assertEqual(board.threads_of("b"), [(Weave(Sheet.drum(5), FULL_THREAD), 1)])
        self.check(board, ["b"], 1)

    def test_kept_threads_may_become_great(self):
        board = Board(Sheet.drum(5))
        board.apply(("draw", "a", FULL_THREAD))
        board.threads_of("a")
        flip = next(x for x in signed(board.sheet) if board.weave("a").flipped(x).total > 5000)
        board.apply(("flip", flip), ("draw", "b", board.weave("a").flipped(flip).counts()))
        self.assertEqual(board.threads_of("a"), [(board.weave("a"), 1)])
        self.assertGreater(board.weave("a").total, 5000)
        self.assertRaises(TooGreat, board.threads_of, "b")
        self.assertEqual((board.kept(), board.computed), (["a"], 1))

    def test_small_again(self):
        board = Board(Sheet.drum(5))
        flip = next(x for x in signed(board.sheet) if Weave(board.sheet, FULL_THREAD).flipped(x).total > 5000)
        board.apply(("flip", flip), ("draw", "a", Weave(board.sheet, FULL_THREAD).flipped(flip).counts()))
        self.assertRaises(TooGreat, board.threads_of, "a")
        board.apply(("flip", -flip))
        self.assertEqual(board.threads_of("a"), [(Weave(Sheet.drum(5), FULL_THREAD), 1)])
        board.undo()
        self.assertEqual(board.threads_of("a"), [(board.weave("a"), 1)])
        self.assertEqual(board.computed, 1)

    def test_twins_keep_for_themselves(self):
        board = filled()
        board.threads_of("a")
        board.apply(("drop", "a"))
        twin = board.twin()
        self.check(twin, [], 1)
        twin.apply(("flip", 1))
        twin.undo()
        twin.undo()
        self.check(twin, ["a"], 1)
        twin.threads_of("b")
        self.check(twin, ["a", "b"], 2)
        self.check(board, [], 1)
        board.undo()
        self.check(board, ["a"], 1)


class Model:
    """A board as the document tells it, without carrying anything over that can be computed again.

    `now` has the sheet and the tuples (name, number of the drawing, weave); `past` and `future` have such pairs.
    """

    def __init__(self, sheet, limit):
        self.now, self.past, self.future, self.limit = (sheet, []), [], [], limit
        self.made, self.asked = 0, set()

    def put(self, rows, name, weave):
        self.made += 1
        new = (name, self.made, weave)
        if name in [row[0] for row in rows]:
            return [new if row[0] == name else row for row in rows]
        return rows + [new]

    def do(self, deed, sheet, rows):
        found = {row[0]: row[2] for row in rows}
        if deed[0] == "draw":
            rows = self.put(rows, deed[1], Weave(sheet, deed[2]))
        elif deed[0] == "join":
            rows = self.put(rows, deed[1], found[deed[2]] + found[deed[3]])
        elif deed[0] == "flip":
            sheet, rows = sheet.flipped(deed[1]), [(a, b, weave.flipped(deed[1])) for a, b, weave in rows]
        elif deed[0] == "drop":
            rows = [row for row in rows if row[0] != deed[1]]
        elif deed[0] == "rename":
            rows = [(deed[2], row[1], row[2]) if row[0] == deed[1] else row for row in rows]
        return sheet, rows

    def apply(self, *deeds):
        now = self.now
        for deed in deeds:
            now = self.do(deed, *now)
        self.past.append(self.now)
        self.now, self.future = now, []

    def undo(self):
        self.future.append(self.now)
        self.now = self.past.pop()

    def redo(self):
        self.past.append(self.now)
        self.now = self.future.pop()

    def ask(self, name):
        key, weave = [row[1:] for row in self.now[1] if row[0] == name][0]
        self.asked.add(key)
        return split(weave)

    def told(self):
        sheet, rows = self.now
        kept = sorted(row[0] for row in rows if row[1] in self.asked)
        history = (len(self.past), len(self.future))
        return sheet, [row[0] for row in rows], [row[2] for row in rows], kept, len(self.asked), history


def told(board):
    weaves = [board.weave(name) for name in board.names()]
    return board.sheet, board.names(), weaves, board.kept(), board.computed, board.history()


def some_deed(board, pick):
    """A deed, which may be refused."""
    names = ["a", "b", "c", "d", "e"]
    known = board.names() or names
    lines = loops_of(board.sheet)
    return [
        lambda: ("draw", names[pick(5)], loop(board.sheet, lines[pick(len(lines))]).counts()),
        lambda: ("draw", names[pick(5)], (ring(board.sheet, pick(board.sheet.nails)) * pick(3)).counts()),
        lambda: ("join", names[pick(5)], known[pick(len(known))], known[pick(len(known))]),
        lambda: ("flip", signed(board.sheet)[pick(2 * board.sheet.lines)]),
        lambda: ("flip", signed(board.sheet)[pick(2 * board.sheet.lines)]),
        lambda: ("drop", known[pick(len(known))]),
        lambda: ("rename", known[pick(len(known))], names[pick(5)]),
    ][pick(7)]()


def loops_of(sheet):
    return [line for line in range(1, sheet.lines + 1) if len(set(sheet.ends(line))) == 2]


class Models(unittest.TestCase):
    def run_steps(self, sheet, seed, steps):
        def pick(many):
            nonlocal seed
            seed = (seed * 1103515245 + 12345) % 2 ** 31
            return (seed >> 8) % many

        board, model, refused = Board(sheet, limit=4), Model(sheet, 4), 0
        for at in range(steps):
            choice = pick(10)
            try:
                if choice == 0:
                    board.undo()
                    model.undo()
                elif choice == 1:
                    board.redo()
                    model.redo()
                elif choice <= 4 and board.names():
                    name = board.names()[pick(len(board))]
                    self.assertEqual(board.threads_of(name), model.ask(name))
                else:
                    trial, deeds = board.twin(), []
                    for _ in range(1 + pick(3)):
                        deeds.append(some_deed(trial, pick))
                        try:
                            trial.apply(deeds[-1])
                        except (ThreadError, Missing):
                            break
                    board.apply(*deeds)
                    model.apply(*deeds)
            except (ThreadError, Missing, NothingLeft):
                refused += 1
            self.assertEqual(told(board), model.told())
            if pick(6) == 0:
                board = board.twin()
        return refused

    def test_many_steps(self):
        for at, sheet in enumerate((Sheet.drum(5), Sheet.drum(6), looped(), Sheet.drum(8)) * 3):
            self.assertGreater(self.run_steps(sheet, at + 1, 250), 20)


if __name__ == "__main__":
    unittest.main()
