"""Weaves behind flips and renamings of their sheets."""

import unittest

from flipthreads.errors import InvalidLine, InvalidRenaming, ThreadError, Unflippable
from flipthreads.loops import loop, ring
from flipthreads.sheets import Sheet
from flipthreads.weaves import Weave
from samples import (
    NO_LINES, drums, loopable, looped, many_sheets, renamings, signed, some_weaves, wrong_renamings,
)

HUGE = 10 ** 29 + 7


def flippable(sheet):
    return [x for x in signed(sheet) if sheet.can_flip(x)]


class Flips(unittest.TestCase):
    def test_counts_by_hand(self):
        weave = loop(Sheet.drum(5), 1)
        self.assertEqual(weave.flipped(1).counts(), [2, 1, 1, 1, 1, 0, 1, 1, 0])
        self.assertEqual(weave.flipped(-1).counts(), [2, 1, 1, 1, 1, 0, 1, 1, 0])
        self.assertEqual(weave.flipped(4).counts(), [0, 1, 1, 1, 1, 0, 1, 1, 0])
        self.assertEqual(ring(Sheet.drum(5), 0).flipped(1).counts(), [0, 0, 1, 1, 0, 0, 1, 0, 0])

    def test_counts_behind_a_flip(self):
        for weave in some_weaves()[::2]:
            for x in flippable(weave.sheet):
                a, b, c, d = (weave.crossings(side) for side in weave.sheet.sides(x))
                expected = weave.counts()
                expected[abs(x) - 1] = max(a + c, b + d) - expected[abs(x) - 1]
                behind = weave.flipped(x)
                self.assertEqual(behind.counts(), expected)
                self.assertEqual(behind.sheet, weave.sheet.flipped(x))

    def test_rings_and_loops_stay_rings_and_loops(self):
        for sheet in many_sheets()[::5] + [looped()]:
            for x in flippable(sheet)[::2]:
                behind = sheet.flipped(x)
                for nail in range(sheet.nails):
                    self.assertEqual(ring(sheet, nail).flipped(x), ring(behind, nail))
                for line in loopable(sheet):
                    if line != abs(x):
                        self.assertEqual(loop(sheet, line).flipped(x), loop(behind, line))

    def test_a_flip_and_its_negative_give_the_counts_back(self):
        for weave in some_weaves()[::2]:
            for x in flippable(weave.sheet):
                self.assertEqual(weave.flipped(x, -x), weave)
                self.assertEqual(weave.flipped(x).flipped(-x), weave)

    def test_many_flips(self):
        for sheet in drums() + [looped()]:
            start = loop(sheet, 1) * 2 + ring(sheet, 0)
            behind, flips = start, []
            for step in range(60):
                choices = flippable(behind.sheet)
                flips.append(choices[step * 7 % len(choices)])
                behind = behind.flipped(flips[-1])
            self.assertEqual(start.flipped(*flips), behind)
            self.assertEqual(behind.sheet, sheet.flipped(*flips))
            self.assertEqual(behind.flipped(*[-x for x in reversed(flips)]), start)

    def test_no_flips(self):
        for weave in some_weaves()[::5]:
            self.assertEqual(weave.flipped(), weave)

    def test_sums_and_great_multiples_of_disjoint_threads(self):
        for sheet in drums() + [looped()]:
            for x in flippable(sheet):
                one, other = ring(sheet, 0), ring(sheet, 1)
                great = one * HUGE + other * (HUGE + 1)
                self.assertEqual(great.flipped(x), one.flipped(x) * HUGE + other.flipped(x) * (HUGE + 1))
                self.assertEqual((loop(sheet, 1) * HUGE).flipped(x), loop(sheet, 1).flipped(x) * HUGE)

    def test_the_empty_weave_stays_empty(self):
        for sheet in drums() + [looped()]:
            for x in flippable(sheet):
                self.assertEqual(Weave.empty(sheet).flipped(x), Weave.empty(sheet.flipped(x)))

    def test_the_weave_itself_stays(self):
        sheet = Sheet.drum(6)
        weave = loop(sheet, 1)
        counts = weave.counts()
        weave.flipped(1, 5, -2)
        self.assertEqual(weave.counts(), counts)
        self.assertEqual(weave.sheet, Sheet.drum(6))
        for flips in ([1, 0], [1, 2, None]):
            self.assertRaises(ThreadError, weave.flipped, *flips)
        self.assertEqual((weave.counts(), weave.sheet), (counts, Sheet.drum(6)))


class RefusedFlips(unittest.TestCase):
    def assert_unflippable(self, at, weave, *flips):
        with self.assertRaises(Unflippable) as caught:
            weave.flipped(*flips)
        self.assertEqual(caught.exception.at, at)

    def test_refused_as_on_the_sheet(self):
        refused = 0
        for sheet in many_sheets()[::3] + [looped()]:
            for x in signed(sheet):
                if not sheet.can_flip(x):
                    refused += 1
                    self.assert_unflippable(0, Weave.empty(sheet), x)
                    self.assert_unflippable(0, ring(sheet, 0) * 3, x)
        self.assertGreater(refused, 20)

    def test_the_index_of_the_refused_flip(self):
        weave = ring(Sheet.drum(5), 0)
        self.assert_unflippable(1, weave, 4, 5)
        self.assert_unflippable(1, weave, 4, -5)
        self.assert_unflippable(3, weave, 1, -1, 4, 6, "wrong")
        self.assert_unflippable(0, ring(looped(), 0), 3, 0)

    def test_wrong_flips(self):
        weave = ring(Sheet.drum(5), 0)
        for flip in NO_LINES:
            for flips in ([flip], [1, flip], [1, -1, flip, 0], [flip, 99], [4, flip, 5]):
                with self.subTest(flips=flips):
                    with self.assertRaises(InvalidLine) as caught:
                        weave.flipped(*flips)
                    self.assertIs(caught.exception.given, flip)

    def test_errors_come_flip_by_flip(self):
        weave = ring(Sheet.drum(5), 0)
        self.assertRaises(InvalidLine, weave.flipped, 0, 4, 5)
        self.assertRaises(InvalidLine, weave.flipped, 4, 0, 5)
        self.assertRaises(Unflippable, weave.flipped, 4, 5, 0)


class Renamings(unittest.TestCase):
    def test_counts_go_to_the_new_names(self):
        for sheet in drums() + [looped()]:
            weave = loop(sheet, 1) * 2 + ring(sheet, 0)
            for renaming in renamings(sheet):
                behind = weave.renamed(renaming)
                self.assertEqual(behind.sheet, sheet.renamed(renaming))
                for line, name in enumerate(renaming, start=1):
                    self.assertEqual(behind.crossings(name), weave.crossings(line))
                self.assertEqual(weave.renamed(tuple(renaming)), behind)
                self.assertEqual(weave.renamed(renaming=renaming), behind)

    def test_by_hand(self):
        weave = ring(Sheet.drum(5), 0).renamed([-1, 5, -7, -3, 4, 6, 8, 2, 9])
        self.assertEqual(weave.counts(), [1, 0, 1, 0, 0, 0, 1, 1, 0])
        great = (ring(Sheet.drum(5), 0) * HUGE).renamed([-1, 5, -7, -3, 4, 6, 8, 2, 9])
        self.assertEqual(great, weave * HUGE)

    def test_rings_and_loops_stay_rings_and_loops(self):
        for sheet in drums() + [looped()]:
            for renaming in renamings(sheet):
                behind = sheet.renamed(renaming)
                for nail in range(sheet.nails):
                    self.assertEqual(ring(sheet, nail).renamed(renaming), ring(behind, nail))
                for line in loopable(sheet):
                    self.assertEqual(loop(sheet, line).renamed(renaming), loop(behind, renaming[line - 1]))

    def test_wrong_renamings(self):
        weave = ring(Sheet.drum(5), 0)
        for renaming in wrong_renamings():
            with self.subTest(renaming=renaming):
                with self.assertRaises(InvalidRenaming) as caught:
                    weave.renamed(renaming)
                self.assertEqual(caught.exception.code, "InvalidRenaming")
        self.assertRaises(InvalidRenaming, Weave.empty(Sheet.drum(10)).renamed, list(range(1, 10)))

    def test_the_argument_and_the_weave_stay(self):
        weave, renaming = ring(Sheet.drum(5), 0), [2, 3, 1, -5, 6, 4, 8, 9, 7]
        behind = weave.renamed(renaming)
        self.assertEqual(renaming, [2, 3, 1, -5, 6, 4, 8, 9, 7])
        self.assertEqual(weave, ring(Sheet.drum(5), 0))
        counts = behind.counts()
        renaming.clear()
        self.assertEqual(behind.counts(), counts)


if __name__ == "__main__":
    unittest.main()
