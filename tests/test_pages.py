import unittest

from flipthreads.boards import Board
from flipthreads.errors import InvalidPage, InvalidText
from flipthreads.loops import loop
from flipthreads.pages import page, read_page, read_sheet, sheet_text
from flipthreads.sheets import Sheet
from samples import AROUND, FIRST, NOTHING, RING, SECOND, drums, looped, many_sheets, renamings, turned

DRUM = "-3,9,-7;-2,8,-9;-1,7,-8;1,5,-4;2,6,-5;3,4,-6 0,1,2,3,4"
HEAD = f"sheet {DRUM}\n"

# How a number may be written wrongly.
WRONG_NUMBERS = [
    "", "+1", "01", "00", "-0", "-00", "-01", "--1", "1-", "1 ", " 1", "1.0", "a", "0x1", "1_0", "-", "+", "1e1", "\n",
    "1\n", "1" * 31, "-" + "1" * 31, "0" * 31, "1" * 3000,
]


def row(counts):
    return ",".join(str(count) for count in counts)


def edits(text, signs):
    """The texts with one sign put in, left out or changed."""
    made = [text[:at] + text[at + 1:] for at in range(len(text))]
    for sign in signs:
        made += [text[:at] + sign + text[at:] for at in range(len(text) + 1)]
        made += [text[:at] + sign + text[at + 1:] for at in range(len(text))]
    return [other for other in made if other != text]


def some_boards():
    made = [Board(sheet) for sheet in drums() + [looped()]]
    for at, sheet in enumerate(many_sheets()[::15]):
        board = Board(sheet, limit=20)
        for k, name in enumerate(("a", "zz", "sheet", "b")[:at % 5]):
            line = [x for x in range(1, sheet.lines + 1) if len(set(sheet.ends(x))) == 2][k]
            board.apply(("draw", name, (loop(sheet, line) * 10 ** (k * at % 20)).counts()))
        made.append(board)
    return made


class Texts(unittest.TestCase):
    def test_by_hand(self):
        self.assertEqual(sheet_text(Sheet.drum(5)), DRUM)
        self.assertEqual(sheet_text(sheet=Sheet.drum(5)), DRUM)
        self.assertEqual(read_sheet(text=DRUM), Sheet.drum(5))
        again = Sheet(Sheet.drum(5).triangles(), order=[4, 0, 3, 1, 2])
        self.assertEqual(sheet_text(again), DRUM[:-9] + "4,0,3,1,2")

    def test_written_and_read_back(self):
        for sheet in many_sheets() + [looped()]:
            text = sheet_text(sheet)
            self.assertEqual(read_sheet(text), sheet)
            self.assertEqual(sheet_text(read_sheet(text)), text)
            parts, order = text.split(" ")
            self.assertEqual([tuple(map(int, part.split(","))) for part in parts.split(";")], sheet.triangles())
            self.assertEqual([int(part) for part in order.split(",")], sheet.order())
        for renaming in renamings(looped()):
            sheet = looped().renamed(renaming)
            self.assertEqual(read_sheet(sheet_text(sheet)), sheet)

    def test_edited_texts(self):
        for sheet in (Sheet.drum(5), looped()):
            read = 0
            for text in edits(sheet_text(sheet), "0127-+;, a\n"):
                try:
                    found = read_sheet(text)
                except InvalidText:
                    continue
                read += 1
                self.assertEqual(sheet_text(found), text)
            self.assertLess(read, 20)

    def test_triangles_in_another_order_or_begun_elsewhere(self):
        parts, order = DRUM.split(" ")
        rows = parts.split(";")
        for start in range(1, 6):
            self.assertRaises(InvalidText, read_sheet, ";".join(turned(rows, start)) + " " + order)
        self.assertRaises(InvalidText, read_sheet, ";".join(rows[::-1]) + " " + order)
        for at, triangle in enumerate(rows):
            for start in (1, 2):
                other = rows[:at] + [",".join(turned(triangle.split(","), start))] + rows[at + 1:]
                self.assertRaises(InvalidText, read_sheet, ";".join(other) + " " + order)

    def test_wrong_texts(self):
        parts, order = DRUM.split(" ")
        for text in (
            "", " ", "\n", parts, parts + " ", order, " " + order, DRUM + " ", " " + DRUM, DRUM + "\n",
            parts + "  " + order, parts + " 0,1,2,3", parts + " 0,1,2,3,3", parts + " 0,1,2,3,5",
            parts + " 0,1,2,3,4,5", parts + " 1,2,3,4,5", parts + "\n" + order, DRUM + "," + order,
            parts + "; " + order, ";" + DRUM, DRUM.replace(";", ","), DRUM.replace(",", ";"),
            "-3,9,-7 0", "1,2,3;-1,-2,-3 0,1,2", DRUM * 2, "x" * 3000, "sheet " + DRUM,
            "-3,9;-2,8,-9;-1,7,-8;1,5,-4;2,6,-5;3,4,-6 0,1,2,3,4", DRUM + " 0", DRUM.upper() + "A",
        ):
            self.assertRaises(InvalidText, read_sheet, text)

    def test_wrong_numbers(self):
        for wrong in WRONG_NUMBERS:
            for text in (DRUM.replace("9", wrong, 1), DRUM[:-1] + wrong, DRUM.replace("-2", wrong, 1)):
                self.assertRaises(InvalidText, read_sheet, text)

    def test_surfaces_that_are_no_ball(self):
        for text in (
            "-5,4,-6;-1,2,-3;1,-2,3;4,5,6;-4,7,8;-7,-8,9 0,1,2,3,4",
            "1,2,3;-1,4,5;-2,6,-4;-3,7,8;-6,9,-7;-5,-8,-9 0,1,2",
        ):
            self.assertRaises(InvalidText, read_sheet, text)


class Pages(unittest.TestCase):
    def refuse(self, text, line):
        with self.assertRaises(InvalidPage) as caught:
            read_page(text)
        self.assertEqual(caught.exception.line, line)

    def test_by_hand(self):
        board = Board(Sheet.drum(5))
        self.assertEqual(page(board), HEAD)
        board.apply(("draw", "b", RING), ("lay", "a", AROUND), ("draw", "sheet", NOTHING))
        text = HEAD + f"b = {row(RING)}\na = {row(FIRST)}\nsheet = {row(NOTHING)}\n"
        self.assertEqual(page(board=board), text)
        self.assertEqual(read_page(text=text), board)

    def test_written_and_read_back(self):
        for board in some_boards():
            found = read_page(page(board))
            self.assertEqual(found, board)
            self.assertEqual(page(found), page(board))
            self.assertEqual((found.names(), found.sheet), (board.names(), board.sheet))

    def test_what_a_read_board_is_like(self):
        board = Board(Sheet.drum(5), limit=3)
        board.apply(("draw", "a", FIRST), ("draw", "b", SECOND), ("flip", 1))
        board.threads_of("a")
        found = read_page(page(board))
        self.assertIs(type(found), Board)
        self.assertEqual((found.limit, found.history(), found.busy), (20, (0, 0), False))
        self.assertEqual((found.kept(), found.computed), ([], 0))
        self.assertEqual(found.threads_of("a"), board.threads_of("a"))
        found.apply(("flip", -1))
        found.undo()
        self.assertEqual((found, found.history()), (board, (0, 1)))
        self.assertEqual(board.history(), (1, 0))

    def test_a_page_changes_nothing(self):
        board = Board(Sheet.drum(5))
        board.apply(("draw", "a", FIRST))
        page(board)
        self.assertEqual((board.kept(), board.computed, board.history()), ([], 0, (1, 0)))

    def test_texts_without_a_line_feed_at_the_end(self):
        self.refuse("", 0)
        self.refuse(HEAD[:-1], 0)
        self.refuse(HEAD + "a", 1)
        self.refuse(HEAD + f"a = {row(RING)}", 1)
        self.refuse(HEAD + f"a = {row(RING)}\nb = {row(FIRST)}", 2)
        self.refuse(HEAD + f"a = {row(RING)[:-1]}\nb = {row(FIRST)}", 1)
        self.refuse(HEAD + f"a = {row(RING)}\n ", 2)

    def test_lines_that_are_empty(self):
        self.refuse("\n", 0)
        self.refuse("\n" + HEAD, 0)
        self.refuse(HEAD + "\n", 1)
        self.refuse(HEAD + f"a = {row(RING)}\n\n", 2)
        self.refuse(HEAD + f"\na = {row(RING)}\n", 1)

    def test_wrong_first_lines(self):
        for line in (
            DRUM, "Sheet " + DRUM, "sheet  " + DRUM, " sheet " + DRUM, "sheet " + DRUM + " ", "sheet", "sheet ",
            "sheet = " + DRUM, "sheets " + DRUM, f"a = {row(RING)}", "sheet " + DRUM[:-1], "sheet " + DRUM + ",5",
        ):
            self.refuse(line + "\n", 0)
            self.refuse(line + "\nwrong\n", 0)

    def test_wrong_drawings(self):
        counts = row(RING)
        for line in (
            "a", "a =", "a = ", f"a={counts}", f"a ={counts}", f"a= {counts}", f"a  = {counts}", f"a =  {counts}",
            f" a = {counts}", f"a = {counts} ", f"a = {counts},", f"a = ,{counts}", f"= {counts}", f" = {counts}",
            counts, f"a == {counts}", f"a = {counts} = {counts}", f"a b = {counts}", f"A = {counts}",
            f"abcdefghi = {counts}", f"a1 = {counts}", f"a = {counts[:-2]}", f"a = {counts},0",
            "a = 1,0,0,0,0,0,0,0,0", f"a = -{counts}",
            "a = " + counts.replace(",", ";"), "a = " + counts.replace(",", " "), "a = " + counts.replace(",", ", "),
            DRUM, HEAD[:-1], f"a = -2,{counts[2:]}",
        ):
            self.refuse(HEAD + line + "\n", 1)
            self.refuse(HEAD + f"z = {counts}\n{line}\nwrong\n", 2)

    def test_wrong_numbers(self):
        for wrong in WRONG_NUMBERS:
            text = HEAD + f"a = {row(RING)[:-1]}{wrong}\nb = {row(RING)}\n"
            self.refuse(text, 1)

    def test_numbers_with_30_digits(self):
        great, greater = int("9" * 30) - 1, 10 ** 30
        text = HEAD + f"a = {row([great * count for count in RING])}\n"
        self.assertEqual(read_page(text).weave("a").counts(), [great * count for count in RING])
        self.refuse(HEAD + f"a = {row([greater * count for count in RING])}\n", 1)

    def test_names_that_stand_twice(self):
        first, second = f"a = {row(RING)}\n", f"b = {row(FIRST)}\n"
        self.refuse(HEAD + first + first, 2)
        self.refuse(HEAD + first + second + first, 3)
        self.refuse(HEAD + first + second + second + first, 3)
        self.assertEqual(read_page(HEAD + second + first).names(), ["b", "a"])

    def test_lines_left_out_or_put_twice(self):
        board = Board(Sheet.drum(5))
        board.apply(("draw", "a", FIRST), ("draw", "b", RING), ("draw", "c", SECOND))
        lines = page(board).splitlines(keepends=True)
        self.refuse("".join(lines[1:]), 0)
        for at in range(1, 4):
            found = read_page("".join(lines[:at] + lines[at + 1:]))
            self.assertEqual(found.names(), [name for k, name in enumerate("abc", start=1) if k != at])
        for at in range(4):
            self.refuse("".join(lines[:at + 1] + lines[at:]), at + 1)

    def test_all_beginnings_of_a_page(self):
        board = Board(Sheet.drum(5))
        board.apply(("draw", "a", FIRST), ("draw", "b", RING))
        text = page(board)
        for size in range(len(text)):
            part = text[:size]
            if part.endswith("\n"):
                self.assertEqual(len(read_page(part)), part.count("\n") - 1)
            else:
                self.refuse(part, part.count("\n"))

    def test_edited_pages(self):
        board = Board(Sheet.drum(5))
        board.apply(("draw", "ab", FIRST), ("draw", "b", RING))
        for text in edits(page(board), "0a- ,\n="):
            try:
                found = read_page(text)
            except InvalidPage as error:
                self.assertIn(error.line, range(text.count("\n") + 1))
                continue
            self.assertEqual(page(found), text)

    def test_20_and_21_drawings(self):
        lines = [f"{chr(97 + k)} = {row(RING)}\n" for k in range(21)]
        self.assertEqual(len(read_page(HEAD + "".join(lines[:20]))), 20)
        self.refuse(HEAD + "".join(lines), 21)
        self.refuse(HEAD + "".join(lines[:20]) + lines[0], 21)
        self.refuse(HEAD + "".join(lines[:20]) + "wrong\n", 21)
        self.refuse(HEAD + "".join(lines[:10]) + "wrong\n" + "".join(lines[10:]), 11)

    def test_the_first_wrong_line_is_told(self):
        self.refuse(HEAD + "wrong\nwrong\nwrong", 1)
        self.refuse("wrong\nwrong\n", 0)
        self.refuse(HEAD + f"a = {row(RING)}\nwrong\n\n", 2)


if __name__ == "__main__":
    unittest.main()
