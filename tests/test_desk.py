import unittest

from flipthreads.boards import Board
from flipthreads.desk import Desk
from flipthreads.loops import loop
from flipthreads.sheets import Sheet
from samples import AROUND, FIRST, FULL_THREAD, GREAT_THREAD, NOTHING, RING, SECOND, looped, state_of

# How a number may be written wrongly; none of these has a space.
WRONG_NUMBERS = [
    "+1", "01", "00", "-0", "-00", "-01", "--1", "1-", "1.0", "a", "0x1", "1_0", "-", "+", "1e1", "\n", "1\n", "1" * 31,
    "-" + "1" * 31, "0" * 31, "1" * 2900, "1,", ",1", ",", "1,,2", "1;2",
]


def row(counts):
    return ",".join(str(count) for count in counts)


def filled(limit=8):
    board = Board(Sheet.drum(5), limit=limit)
    board.apply(("draw", "a", FIRST), ("draw", "b", RING), ("draw", "c", SECOND))
    return Desk(board)


class Asking(unittest.TestCase):
    def refuse(self, desk, line, answer):
        """A line is answered, and the board is not changed."""
        before = state_of(desk.board)
        self.assertEqual(desk.say(line), answer, line)
        self.assertEqual(state_of(desk.board), before, line)
        self.assertEqual(desk.log()[-1], (line, answer))


class Desks(unittest.TestCase):
    def test_the_board_itself(self):
        board = Board(Sheet.drum(5))
        desk = Desk(board=board)
        self.assertIs(desk.board, board)
        self.assertEqual((len(desk), desk.log(), repr(desk)), (0, [], "Desk(0 lines)"))

    def test_the_log(self):
        desk = filled()
        lines = ["names", "flip 1", "flip", "flip 0", "undo", ""]
        answers = [desk.say(line) if at % 2 else desk(line) for at, line in enumerate(lines)]
        self.assertEqual(answers, ["a b c", "done", "unknown", "error InvalidLine", "done", "unknown"])
        self.assertEqual(desk.log(), list(zip(lines, answers)))
        self.assertEqual((len(desk), repr(desk)), (6, "Desk(6 lines)"))
        self.assertEqual([type(pair) for pair in desk.log()], [tuple] * 6)
        desk.log().clear()
        self.assertEqual(len(desk.log()), 6)
        self.assertEqual(repr(desk), "Desk(6 lines)")

    def test_lines_by_name(self):
        desk = filled()
        self.assertEqual([desk.say(line="names"), desk(line="total a")], ["a b c", "6"])
        self.assertEqual(repr(desk), "Desk(2 lines)")

    def test_one_line(self):
        desk = filled()
        desk("names")
        self.assertEqual(repr(desk), "Desk(1 lines)")

    def test_two_desks_of_one_board(self):
        board = Board(Sheet.drum(5))
        one, other = Desk(board), Desk(board)
        self.assertEqual(one(f"draw a {row(RING)}"), "done")
        self.assertEqual(other("names"), "a")
        self.assertEqual(other("undo"), "done")
        self.assertEqual(one("names"), "none")
        self.assertEqual((len(one), len(other), board.history()), (2, 2, (0, 1)))
        self.assertEqual(one.log()[0], (f"draw a {row(RING)}", "done"))

    def test_a_board_that_is_changed_beside_the_desk(self):
        desk = filled()
        desk.board.apply(("drop", "a"), ("flip", 1))
        self.assertEqual(desk("names"), "b c")
        self.assertEqual(desk("show b"), row(desk.board.weave("b").counts()))


class Deeds(Asking):
    def test_lines_that_change_the_board(self):
        desk = Desk(Board(Sheet.drum(5)))
        for line, deed in (
            (f"draw a {row(FIRST)}", ("draw", "a", FIRST)), (f"draw b {row(RING)}", ("draw", "b", RING)),
            (f"lay c {row(AROUND)}", ("lay", "c", AROUND)), ("join d a b", ("join", "d", "a", "b")),
            ("flip 1", ("flip", 1)), ("flip -1", ("flip", -1)), ("flip -5", ("flip", -5)), ("drop a", ("drop", "a")),
            ("rename b zebra", ("rename", "b", "zebra")), (f"draw e {row(NOTHING)}", ("draw", "e", NOTHING)),
        ):
            expected = desk.board.twin()
            expected.apply(deed)
            self.assertEqual(desk(line), "done", line)
            self.assertEqual((desk.board, desk.board.history()), (expected, expected.history()))

    def test_undo_and_redo(self):
        desk = filled()
        self.assertEqual([desk("undo"), desk("names"), desk("redo"), desk("names")], ["done", "none", "done", "a b c"])
        self.refuse(desk, "redo", "error NothingLeft")
        desk("undo")
        self.refuse(desk, "undo", "error NothingLeft")

    def test_great_numbers(self):
        desk = Desk(Board(Sheet.drum(5)))
        great = [(10 ** 30 - 2) * count for count in RING]
        self.assertEqual(desk(f"draw a {row(great)}"), "done")
        self.assertEqual(desk("show a"), row(great))
        self.assertEqual(desk("total a"), str(4 * (10 ** 30 - 2)))
        self.refuse(desk, f"draw a {row([10 ** 30 * count for count in RING])}", "unknown")

    def test_errors(self):
        for line, name in (
            (f"draw A {row(RING)}", "InvalidName"), (f"draw abcdefghi {row(RING)}", "InvalidName"),
            (f"draw d {row(RING)},0", "InvalidCounts"), ("draw d 1", "InvalidCounts"), ("draw d -1", "InvalidCounts"),
            (f"draw d -2,{row(RING[1:])}", "InvalidCounts"), (f"draw d 2,{row(RING[1:])}", "Misfit"),
            (f"lay A1 {row(AROUND)}", "InvalidName"), ("lay d 2,4", "InvalidPath"), ("lay d 0", "InvalidPath"),
            ("lay d 10,-10", "InvalidPath"), ("lay d -", "NotThread"), ("lay d 1,-1", "NotThread"),
            (f"lay d {row(AROUND * 2)}", "NotThread"), ("join D a b", "InvalidName"), ("join d x b", "UnknownName"),
            ("join d a x", "UnknownName"), ("join d a c", "Entangled"), ("flip 0", "InvalidLine"),
            ("flip 10", "InvalidLine"), ("flip -10", "InvalidLine"), (f"flip {10 ** 29}", "InvalidLine"),
            ("drop x", "UnknownName"), ("drop A!", "UnknownName"), ("rename x d", "UnknownName"),
            ("rename a D", "InvalidName"), ("rename a b", "DuplicateName"), ("rename a a", "DuplicateName"),
            ("redo", "NothingLeft"), ("show x", "UnknownName"), ("total x", "UnknownName"),
            ("threads x", "UnknownName"), ("rooms x", "UnknownName"), ("apart x a", "UnknownName"),
            ("apart a x", "UnknownName"), ("drop a\n", "UnknownName"),
        ):
            self.refuse(filled(), line, f"error {name}")
        for line in (f"draw d {row(RING)}", f"lay d {row(AROUND)}", "join d a b", "join d x y", "draw d 1"):
            self.refuse(filled(limit=3), line, "error TooMany")
        desk = Desk(Board(looped()))
        self.refuse(desk, "flip 3", "error Unflippable")

    def test_totals_that_are_too_great(self):
        desk = Desk(Board(Sheet.drum(5)))
        desk(f"draw a {row(GREAT_THREAD)}")
        desk(f"draw b {row(FULL_THREAD)}")
        desk(f"draw c {row(RING)}")
        for line in ("threads a", "rooms a", "apart a c", "apart b c", "join d b c", "join d a a"):
            self.refuse(desk, line, "error TooGreat")
        self.assertEqual(desk("threads b"), f"1x{row(FULL_THREAD)}")
        self.assertEqual(desk("total a"), "5001")

    def test_refused_lines_are_no_steps(self):
        desk = filled()
        desk("flip 1")
        desk("undo")
        self.refuse(desk, "flip 0", "error InvalidLine")
        self.refuse(desk, "flip x", "unknown")
        self.assertEqual(desk("redo"), "done")


class Questions(Asking):
    def test_names(self):
        self.refuse(filled(), "names", "a b c")
        self.refuse(Desk(Board(Sheet.drum(5))), "names", "none")

    def test_show_and_total(self):
        desk = filled()
        self.refuse(desk, "show a", row(FIRST))
        self.refuse(desk, "total a", "6")
        desk(f"draw d {row(NOTHING)}")
        self.refuse(desk, "show d", "0,0,0,0,0,0,0,0,0")
        self.refuse(desk, "total d", "0")

    def test_threads(self):
        desk = filled()
        desk(f"draw d {row([a + b for a, b in zip(FIRST, SECOND)])}")
        desk(f"draw e {row([3 * a + 12 * b for a, b in zip(FIRST, RING)])}")
        desk(f"draw f {row(NOTHING)}")
        self.assertEqual(desk("threads a"), f"1x{row(FIRST)}")
        self.assertEqual(desk("threads d"), "1x0,0,2,1,1,1,1,1,1 1x1,1,0,0,1,0,0,1,0")
        self.assertEqual(desk("threads e"), f"3x{row(FIRST)} 12x{row(RING)}")
        self.assertEqual(desk("threads f"), "none")

    def test_threads_are_kept(self):
        desk = filled()
        for _ in range(2):
            self.assertEqual(desk("threads b"), f"1x{row(RING)}")
            self.assertEqual((desk.board.kept(), desk.board.computed), (["b"], 1))
        desk("flip 1")
        self.assertEqual(desk("threads b"), f"1x{row(desk.board.weave('b').counts())}")
        self.assertEqual((desk.board.kept(), desk.board.computed), (["b"], 1))

    def test_other_questions_ask_for_no_threads(self):
        desk = filled()
        for line in ("names", "show a", "total a", "rooms a", "apart a b", "apart a c", "apart a a"):
            desk(line)
            self.assertEqual((desk.board.kept(), desk.board.computed), ([], 0))
        self.assertEqual(desk("join d a b"), "done")
        self.assertEqual((desk.board.kept(), desk.board.computed), ([], 0))

    def test_rooms(self):
        desk = filled()
        desk(f"draw d {row([a + b for a, b in zip(FIRST, SECOND)])}")
        desk(f"draw e {row(NOTHING)}")
        self.refuse(desk, "rooms a", "0,1 2,3,4")
        self.refuse(desk, "rooms b", "0 1,2,3,4")
        self.refuse(desk, "rooms d", "0,2 1 3,4")
        self.refuse(desk, "rooms e", "0,1,2,3,4")

    def test_apart(self):
        desk = filled()
        self.refuse(desk, "apart a b", "yes")
        self.refuse(desk, "apart b a", "yes")
        self.refuse(desk, "apart a a", "yes")
        self.refuse(desk, "apart a c", "no")
        self.refuse(desk, "apart c a", "no")

    def test_a_flipped_sheet(self):
        desk = filled()
        desk("flip 1")
        self.assertEqual(desk("show a"), row(loop(Sheet.drum(5), 1).flipped(1).counts()))
        self.assertEqual([desk("rooms a"), desk("apart a b"), desk("apart a c")], ["0,1 2,3,4", "yes", "no"])


class Unknown(Asking):
    def test_words_too_many_or_too_few(self):
        forms = [
            f"draw d {row(RING)}", f"lay d {row(AROUND)}", "join d a b", "flip 1", "drop a", "rename a d", "undo",
            "redo", "names", "show a", "total a", "threads a", "rooms a", "apart a b",
        ]
        for line in forms:
            desk = filled()
            desk.board.apply(("flip", 1), ("flip", -1))
            desk.board.undo()
            self.assertFalse(desk(line).startswith(("unknown", "error")), line)
            words = line.split(" ")
            for other in (
                line + " a", line + " 1", "a " + line, " ".join(words[:-1]), line + " ", " " + line, line + "\n",
                "\n" + line, line.upper(), line.replace(" ", "\n"), words[0].title() + line[len(words[0]):], "x" + line,
            ):
                if other != line:
                    answer = desk.say(other)
                    named = other == line + "\n" and words[0] in ("join", "drop", "rename", "show", "total", "threads",
                                                                  "rooms", "apart")
                    if named:
                        self.assertIn(answer, ("error UnknownName", "error InvalidName"))
                    else:
                        self.assertEqual(answer, "unknown", other)

    def test_empty_words(self):
        for line in (
            "", " ", "  ", "names ", " names", "show  a", "show ", "show a ", " show a", "drop  ", "join d  a b",
            "flip  1", f"draw  d {row(RING)}", f"draw d  {row(RING)}", "lay d ", "undo ", " redo",
            "rename a ", "apart a ",
        ):
            self.refuse(filled(), line, "unknown")

    def test_other_lines(self):
        for line in (
            "x", "unknown", "done", "quit", "threads_of a", "kept", "page", "sheet", "apply flip 1", "UNDO", "Names",
            "draw", "lay", "join", "flip", "drop", "rename", "show", "total", "threads", "rooms", "apart", "\n",
            "names\n", "names\nnames", "x" * 3000, "flip 1;flip 2", "flip\t1", "draw a", "0", "1 2 3", "limit 3",
        ):
            self.refuse(filled(), line, "unknown")

    def test_numbers_written_otherwise(self):
        for wrong in WRONG_NUMBERS:
            self.refuse(filled(), f"draw d {row(RING[:8])},{wrong}", "unknown")
            self.refuse(filled(), f"draw d {wrong},{row(RING[1:])}", "unknown")
            self.refuse(filled(), f"draw d {wrong}", "unknown")
            self.refuse(filled(), f"draw D {wrong}", "unknown")
            self.refuse(filled(limit=3), f"lay x {row(AROUND)},{wrong}", "unknown")
            self.refuse(filled(), f"flip {wrong}", "unknown")
            if wrong != "-":
                self.refuse(filled(), f"lay d {wrong}", "unknown")

    def test_the_empty_path(self):
        self.refuse(filled(), "lay d -", "error NotThread")
        self.refuse(filled(), "draw d -", "unknown")
        self.refuse(filled(), "flip -", "unknown")
        self.refuse(filled(), "lay d -,-", "unknown")
        self.refuse(filled(), "lay d --", "unknown")

    def test_several_numbers_for_a_flip(self):
        self.refuse(filled(), "flip 1,2", "unknown")
        self.refuse(filled(), "flip 1,", "unknown")


if __name__ == "__main__":
    unittest.main()
