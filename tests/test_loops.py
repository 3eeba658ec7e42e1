import unittest

from flipthreads.errors import EndsMeet, InvalidLine, InvalidNail
from flipthreads.loops import loop, ring
from flipthreads.sheets import Sheet
from flipthreads.splits import is_thread, split
from samples import NO_LINES, NO_NUMBERS, drums, loopable, looped, many_sheets, plain_threads, signed


def nails_apart(weave):
    """The nails that a thread parts from nail 0, found along lines: an odd count leads to the other side."""
    side = {0: 0}
    while len(side) < weave.sheet.nails:
        for x in signed(weave.sheet):
            begin, end = weave.sheet.ends(x)
            if begin in side:
                side[end] = (side[begin] + weave.crossings(x)) % 2
    return {nail for nail in side if side[nail] == 1}


def ends_at(sheet, *nails):
    return [sum(end in nails for end in sheet.ends(line)) for line in range(1, sheet.lines + 1)]


class Rings(unittest.TestCase):
    def test_by_hand(self):
        self.assertEqual(ring(Sheet.drum(5), 0).counts(), [1, 0, 1, 1, 0, 0, 1, 0, 0])
        self.assertEqual(ring(Sheet.drum(5), 3).counts(), [0, 0, 0, 1, 1, 1, 0, 0, 0])
        self.assertEqual(ring(sheet=Sheet.drum(5), nail=4).counts(), [0, 0, 0, 0, 0, 0, 1, 1, 1])

    def test_a_line_with_both_ends_at_the_nail_is_crossed_twice(self):
        self.assertEqual(looped().ends(8), (2, 2))
        self.assertEqual(ring(looped(), 2).crossings(8), 2)
        self.assertEqual(ring(looped(), 1).crossings(8), 0)

    def test_every_nail_of_many_sheets(self):
        for sheet in many_sheets()[::2] + [looped()]:
            for nail in range(sheet.nails):
                weave = ring(sheet, nail)
                self.assertEqual(weave.counts(), ends_at(sheet, nail))
                self.assertEqual(weave.sheet, sheet)

    def test_rings_are_single_threads_around_one_nail(self):
        for sheet in many_sheets()[::6] + [looped()]:
            for nail in range(sheet.nails):
                weave = ring(sheet, nail)
                self.assertTrue(is_thread(weave))
                self.assertEqual(plain_threads(weave), [weave.counts()])
                expected = {nail} if nail else set(range(1, sheet.nails))
                self.assertEqual(nails_apart(weave), expected)

    def test_nails_by_their_numbers(self):
        sheet = Sheet(Sheet.drum(5).triangles(), order=[3, 0, 4, 1, 2])
        self.assertEqual(ring(sheet, 3).counts(), ring(Sheet.drum(5), 0).counts())
        self.assertEqual(ring(sheet, 1).counts(), ring(Sheet.drum(5), 3).counts())

    def test_wrong_nails(self):
        for nail in NO_NUMBERS + [-1, 5, 6, 10, 10 ** 29, -10 ** 29]:
            with self.subTest(nail=nail):
                with self.assertRaises(InvalidNail) as caught:
                    ring(Sheet.drum(5), nail)
                self.assertIs(caught.exception.given, nail)
        self.assertEqual(ring(Sheet.drum(10), 9).total, 8)
        self.assertRaises(InvalidNail, ring, Sheet.drum(10), 10)


class Loops(unittest.TestCase):
    def test_by_hand(self):
        self.assertEqual(loop(Sheet.drum(5), 1).counts(), [0, 1, 1, 1, 1, 0, 1, 1, 0])
        self.assertEqual(loop(sheet=Sheet.drum(5), line=-1).counts(), [0, 1, 1, 1, 1, 0, 1, 1, 0])
        self.assertEqual(loop(Sheet.drum(5), 4).counts(), [1, 0, 1, 0, 1, 1, 1, 0, 0])

    def test_two_lines_that_join_the_same_nails(self):
        sheet = looped()
        self.assertEqual((sheet.ends(2), sheet.ends(4)), ((1, 2), (1, 2)))
        self.assertEqual([loop(sheet, 2).crossings(x) for x in (2, 4, 8)], [0, 2, 2])
        self.assertEqual([loop(sheet, 4).crossings(x) for x in (2, 4, 8)], [2, 0, 2])
        self.assertNotEqual(loop(sheet, 2), loop(sheet, 4))

    def test_every_line_of_many_sheets(self):
        for sheet in many_sheets()[::2] + [looped()]:
            for line in loopable(sheet):
                expected = ends_at(sheet, *sheet.ends(line))
                expected[line - 1] = 0
                self.assertEqual(loop(sheet, line).counts(), expected)
                self.assertEqual(loop(sheet, -line), loop(sheet, line))
                self.assertEqual(loop(sheet, line).sheet, sheet)

    def test_loops_are_single_threads_around_two_nails(self):
        for sheet in many_sheets()[::6] + [looped()]:
            for line in loopable(sheet):
                weave = loop(sheet, line)
                self.assertEqual([(each, times) for each, times in split(weave)], [(weave, 1)])
                inside = set(sheet.ends(line))
                expected = inside if 0 not in inside else set(range(sheet.nails)) - inside
                self.assertEqual(nails_apart(weave), expected)

    def test_lines_whose_ends_meet(self):
        met = 0
        for sheet in many_sheets() + [looped()]:
            for x in signed(sheet):
                if sheet.ends(x)[0] == sheet.ends(x)[1]:
                    met += 1
                    with self.assertRaises(EndsMeet) as caught:
                        loop(sheet, x)
                    self.assertEqual(caught.exception.line, x)
        self.assertGreater(met, 10)

    def test_wrong_lines(self):
        for line in NO_LINES:
            for sheet in (Sheet.drum(5), looped()):
                with self.subTest(line=line):
                    with self.assertRaises(InvalidLine) as caught:
                        loop(sheet, line)
                    self.assertIs(caught.exception.given, line)
        self.assertEqual([loop(sheet, -sheet.lines).crossings(sheet.lines) for sheet in drums()], [0] * 6)
        self.assertRaises(InvalidLine, loop, Sheet.drum(10), 25)


if __name__ == "__main__":
    unittest.main()
