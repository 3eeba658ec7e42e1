import inspect
import unittest

from flipthreads import walks
from flipthreads.errors import InvalidLine, InvalidPosition, NotThread, TooGreat
from flipthreads.loops import loop, ring
from flipthreads.sheets import Sheet
from flipthreads.walks import walk, word
from flipthreads.weaves import Weave
from samples import (
    FULL_THREAD, GREAT_THREAD, NO_LINES, NO_NUMBERS, half_turned, looped, signed, some_threads, some_weaves,
)


def turned_round(weave, steps):
    """The pairs of the same thread in the other direction, begun at the same crossing."""
    back = [(-x, weave.crossings(x) - 1 - p) for x, p in steps]
    return back[:1] + back[:0:-1]


def crossings(weave, steps):
    return [(x, p) if x > 0 else (-x, weave.crossings(x) - 1 - p) for x, p in steps]


def plain_word(thread):
    """The least of all words, each written out."""
    line = next(x for x in signed(thread.sheet) if thread.crossings(x))
    there = tuple(x for x, _ in walk(thread, line, 0))
    back = tuple(-x for x in reversed(there))
    return min(row[at:] + row[:at] for row in (there, back) for at in range(len(row)))


class Walks(unittest.TestCase):
    def test_by_hand(self):
        sheet = Sheet.drum(5)
        self.assertEqual(list(walk(ring(sheet, 3), 4, 0)), [(4, 0), (6, 0), (5, 0)])
        self.assertEqual(list(walk(ring(sheet, 3), -4, 0)), [(-4, 0), (-5, 0), (-6, 0)])
        self.assertEqual(list(walk(ring(sheet, 3) * 2, 4, 0)), [(4, 0), (6, 0), (5, 0)])
        self.assertEqual(list(walk(ring(sheet, 3) * 2, -4, 0)), [(-4, 0), (-5, 0), (-6, 0)])
        self.assertEqual(list(walk(ring(sheet, 3) * 2, 4, 1)), [(4, 1), (6, 1), (5, 1)])
        self.assertEqual([x for x, _ in walk(loop(sheet, 1), -8, 0)], [-8, -7, 3, -4, -5, -2])
        found = list(walk(weave=loop(sheet, 1) + ring(sheet, 0), line=4, at=1))
        self.assertEqual(found, [(4, 1), (-3, 1), (7, 1), (8, 0), (2, 0), (5, 0)])
        self.assertEqual(list(walk(loop(sheet, 1) + ring(sheet, 0), 4, 0)), [(4, 0), (-3, 0), (7, 0), (1, 0)])

    def test_it_is_a_generator_of_pairs(self):
        found = walk(loop(Sheet.drum(5), 1), 2, 0)
        self.assertTrue(inspect.isgenerator(found))
        self.assertIs(type(next(found)), tuple)

    def test_each_step_is_the_one_that_is_told(self):
        for weave in some_weaves()[::3]:
            for line in signed(weave.sheet):
                if weave.crossings(line) == 0:
                    continue
                steps = list(walk(weave, line, weave.crossings(line) // 2))
                self.assertEqual(steps[0], (line, weave.crossings(line) // 2))
                for (x, p), behind in zip(steps, steps[1:] + steps[:1]):
                    _, y, z = weave.sheet.triangle(x)
                    a, b, c = weave.crossings(x), weave.crossings(y), weave.crossings(z)
                    expected = (-z, p) if p < (a + c - b) // 2 else (-y, p + b - a)
                    self.assertEqual(behind, expected)

    def test_each_crossing_is_met_once_in_both_directions(self):
        for weave in some_weaves():
            left = {(x, p) for x in range(1, weave.sheet.lines + 1) for p in range(weave.crossings(x))}
            while left:
                line, at = min(left)
                steps = list(walk(weave, line, at))
                met = crossings(weave, steps)
                self.assertEqual(len(set(met)), len(met))
                self.assertLessEqual(set(met), left)
                left -= set(met)
                other = list(walk(weave, -line, weave.crossings(line) - 1 - at))
                self.assertEqual(other, turned_round(weave, steps))
                self.assertEqual(sorted(crossings(weave, other)), sorted(met))

    def test_a_walk_from_each_of_its_pairs_is_the_same(self):
        for weave in some_weaves()[::9]:
            line = next((x for x in signed(weave.sheet) if weave.crossings(x)), None)
            steps = list(walk(weave, line, 0)) if line else []
            for at, (x, p) in enumerate(steps):
                self.assertEqual(list(walk(weave, x, p)), steps[at:] + steps[:at])

    def test_no_thread_leaves_a_triangle_by_the_line_by_which_it_came_in(self):
        for thread in some_threads()[::5]:
            lines = word(thread)
            for x, y in zip(lines, lines[1:] + lines[:1]):
                self.assertNotEqual(abs(x), abs(y))
                self.assertIn(-y, thread.sheet.triangle(x))

    def test_the_bound(self):
        sheet = Sheet.drum(5)
        self.assertEqual(walks.MOST_CROSSINGS, 5000)
        self.assertEqual((ring(sheet, 0) * 1250).total, 5000)
        self.assertEqual(len(list(walk(ring(sheet, 0) * 1250, 1, 1249))), 4)
        self.assertEqual(len(list(walk(Weave(sheet, FULL_THREAD), -2, 834))), 5000)
        great = [ring(sheet, 3) * 1667, ring(sheet, 0) * 1251, Weave(sheet, GREAT_THREAD), ring(sheet, 0) * 10 ** 29]
        for weave in great:
            line = next(x for x in signed(sheet) if weave.crossings(x))
            with self.assertRaises(TooGreat) as caught:
                next(walk(weave, line, 0))
            self.assertEqual(caught.exception.most, 5000)

    def test_wrong_lines(self):
        for weave in (loop(Sheet.drum(5), 1), loop(Sheet.drum(5), 1) * 9999, Weave.empty(Sheet.drum(5))):
            for line in NO_LINES:
                for at in (0, -1, None):
                    with self.subTest(line=line, at=at):
                        with self.assertRaises(InvalidLine) as caught:
                            next(walk(weave, line, at))
                        self.assertIs(caught.exception.given, line)

    def test_wrong_positions(self):
        around = ring(Sheet.drum(5), 0)
        for weave, line in ((around * 3, 1), (ring(looped(), 2), -8), (around * 9999, 4)):
            for at in NO_NUMBERS + [-1, -2, weave.crossings(line), 10 ** 29, -10 ** 29]:
                with self.subTest(line=line, at=at):
                    with self.assertRaises(InvalidPosition) as caught:
                        next(walk(weave, line, at))
                    self.assertIs(caught.exception.given, at)
        for line in (2, -2, 9):
            self.assertRaises(InvalidPosition, next, walk(around, line, 0))
        self.assertEqual(next(walk(around * 3, 1, 2)), (1, 2))

    def test_errors_wait_for_the_first_item(self):
        weave = ring(Sheet.drum(5), 0) * 9999
        for line, at, error in ((0, -1, InvalidLine), (1, -1, InvalidPosition), (1, 0, TooGreat)):
            found = walk(weave, line, at)
            self.assertRaises(error, next, found)


class Words(unittest.TestCase):
    def test_by_hand(self):
        self.assertEqual(word(loop(Sheet.drum(5), 1)), (-8, -7, 3, -4, -5, -2))
        self.assertEqual(word(thread=ring(Sheet.drum(5), 3)), (-6, -4, -5))
        self.assertEqual(word(ring(Sheet.drum(5), 0)), (-7, 3, -4, -1))

    def test_the_least_of_all_words(self):
        for thread in some_threads()[::2]:
            found = word(thread)
            self.assertIs(type(found), tuple)
            self.assertEqual(found, plain_word(thread))
            self.assertEqual(sorted(map(abs, found)), [
                line for line in range(1, thread.sheet.lines + 1) for _ in range(thread.crossings(line))
            ])

    def test_both_directions_may_have_the_least(self):
        forward = 0
        for thread in some_threads():
            line = next(x for x in range(1, thread.sheet.lines + 1) if thread.crossings(x))
            forward += min(x for x, _ in walk(thread, line, 0)) == word(thread)[0]
        self.assertGreater(forward, 20)
        self.assertLess(forward, len(some_threads()) - 20)

    def test_long_words(self):
        sheet = Sheet.drum(5)
        for turns in (1, 2, 5, 20):
            thread = half_turned(loop(sheet, 2), turns)
            self.assertEqual(word(thread), plain_word(thread))
        found = word(Weave(sheet, FULL_THREAD))
        self.assertEqual([sum(abs(x) == line for x in found) for line in range(1, 10)], FULL_THREAD)

    def test_too_great(self):
        sheet = Sheet.drum(5)
        for weave in (Weave(sheet, GREAT_THREAD), ring(sheet, 0) * 1251, (ring(sheet, 0) + ring(sheet, 1)) * 10 ** 29):
            with self.assertRaises(TooGreat) as caught:
                word(weave)
            self.assertEqual(caught.exception.most, 5000)

    def test_no_single_thread(self):
        sheet = Sheet.drum(5)
        for weave in (
            Weave.empty(sheet), ring(sheet, 0) * 2, ring(sheet, 3) + ring(sheet, 4), loop(sheet, 1) + loop(sheet, 2),
            loop(sheet, 1) + ring(sheet, 0), ring(sheet, 0) * 1250, Weave.empty(looped()), ring(looped(), 2) * 2,
        ):
            self.assertRaises(NotThread, word, weave)


if __name__ == "__main__":
    unittest.main()
