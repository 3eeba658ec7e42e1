import itertools
import unittest

from flipthreads.errors import InvalidCounts, InvalidFactor, InvalidLine, Misfit, OtherSheet
from flipthreads.loops import loop, ring
from flipthreads.sheets import Sheet
from flipthreads.weaves import Weave
from samples import (
    NO_LINES, NO_LISTS, NO_NUMBERS, deep, drums, loopable, looped, many_sheets, signed, some_threads, some_weaves,
)

HUGE = 10 ** 29 + 7
RING = [1, 0, 1, 1, 0, 0, 1, 0, 0]


def plain_misfits(sheet, counts):
    """The pairs (index, reason) of the triangles in which counts do not fit, as [9] tells it."""
    found = []
    for at, triangle in enumerate(sheet.triangles()):
        a, b, c = (counts[abs(x) - 1] for x in triangle)
        if (a + b + c) % 2 == 1:
            found.append((at, "parity"))
        if a > b + c or b > a + c or c > a + b:
            found.append((at, "size"))
    return found


class WeaveCase(unittest.TestCase):
    def assert_raised(self, error, call, *arguments):
        with self.assertRaises(error) as caught:
            call(*arguments)
        self.assertIs(type(caught.exception), error)
        return caught.exception


class Making(WeaveCase):
    def test_counts_that_fit(self):
        sheet = Sheet.drum(5)
        weave = Weave(sheet, RING)
        self.assertEqual(weave.counts(), RING)
        self.assertEqual(weave.total, 4)
        self.assertEqual(weave.sheet, sheet)
        self.assertEqual(Weave(sheet=sheet, counts=RING), weave)

    def test_a_tuple_may_be_passed(self):
        weave = Weave(Sheet.drum(5), tuple(RING))
        self.assertEqual(weave, Weave(Sheet.drum(5), RING))
        self.assertIs(type(weave.counts()), list)

    def test_all_small_counts_fit_or_not_as_told(self):
        sheet, reasons, fitting = Sheet.drum(5), set(), 0
        for counts in itertools.product(range(3), repeat=9):
            misfits = plain_misfits(sheet, counts)
            if misfits:
                with self.assertRaises(Misfit) as caught:
                    Weave(sheet, counts)
                self.assertEqual(caught.exception.at, misfits[0][0])
                reasons.add(misfits[0])
            else:
                fitting += 1
                self.assertEqual(Weave(sheet, counts).counts(), list(counts))
        self.assertGreater(fitting, 50)
        # Never is the sum of one triangle alone odd, so an odd one that is first is not the last one.
        self.assertEqual(reasons, {(at, "parity") for at in range(5)} | {(at, "size") for at in range(6)})

    def test_misfits_on_many_sheets(self):
        for number, sheet in enumerate(many_sheets()[::5] + [looped()]):
            fitting = ring(sheet, 0) * 2 + loop(sheet, loopable(sheet)[number % 5])
            for line in range(sheet.lines):
                for change in (1, 2, 7, 40, HUGE):
                    counts = fitting.counts()
                    counts[line] += change
                    misfits = plain_misfits(sheet, counts)
                    if misfits:
                        self.assertEqual(self.assert_raised(Misfit, Weave, sheet, counts).at, misfits[0][0])
                    else:
                        self.assertEqual(Weave(sheet, counts).counts(), counts)

    def test_parity_and_size_by_hand(self):
        sheet = Sheet.drum(5)
        for counts, at in (
            ([0, 0, 1, 0, 0, 0, 0, 0, 0], 0), ([0, 0, 2, 0, 0, 0, 0, 0, 0], 0), ([0, 0, 0, 0, 0, 0, 3, 0, 1], 0),
            ([0, 0, 0, 1, 0, 0, 0, 0, 0], 3), ([0, 0, 0, 2, 0, 0, 0, 0, 0], 3), ([0, 0, 0, 0, 0, 1, 0, 0, 0], 4),
            ([0, 0, 0, 0, 0, 2, 0, 0, 0], 4), ([0, 0, 2, 0, 0, 0, 1, 1, 1], 5), ([0, 0, 0, 1, 1, 3, 0, 0, 0], 4),
        ):
            self.assertEqual(self.assert_raised(Misfit, Weave, sheet, counts).at, at)
        self.assertEqual(Weave(sheet, [0, 0, 0, 1, 1, 1, 0, 0, 0]).total, 3)

    def test_a_count_may_be_as_great_as_the_others_together(self):
        sheet = Sheet.drum(5)
        self.assertEqual(Weave(sheet, [2, 0, 0, 1, 1, 1, 1, 1, 1]).total, 8)
        self.assert_raised(Misfit, Weave, sheet, [4, 0, 0, 1, 1, 1, 1, 1, 1])

    def test_great_counts(self):
        sheet = Sheet.drum(5)
        counts = [HUGE * count for count in RING]
        self.assertEqual(Weave(sheet, counts).counts(), counts)
        self.assertEqual(Weave(sheet, counts).total, 4 * HUGE)
        self.assertEqual(self.assert_raised(Misfit, Weave, sheet, [HUGE + 1] + counts[1:]).at, 2)
        self.assertEqual(self.assert_raised(Misfit, Weave, sheet, [HUGE + 2] + counts[1:]).at, 2)

    def test_wrong_counts(self):
        wrong = NO_LISTS + [
            [], (), [0] * 8, [0] * 10, [0] * 400, RING[:8], RING + [0], [RING], (RING,), [RING] * 9, deep(0, 10),
            "1" * 9, [0] * 8 + [-1], [-1] + [0] * 8, [-HUGE] * 9, ["0"] * 9, [None] * 9, [False] * 9, [True] * 9,
        ]
        for counts in wrong:
            with self.subTest(counts=counts):
                self.assertEqual(self.assert_raised(InvalidCounts, Weave, Sheet.drum(5), counts).code, "InvalidCounts")

    def test_one_wrong_count(self):
        for value in NO_NUMBERS + [-1, -2, -HUGE]:
            for at in range(9):
                with self.subTest(value=value, at=at):
                    self.assert_raised(InvalidCounts, Weave, Sheet.drum(5), RING[:at] + [value] + RING[at + 1:])
                    self.assert_raised(InvalidCounts, Weave, Sheet.drum(5), (0,) * at + (value,) + (0,) * (8 - at))

    def test_the_number_of_lines_is_that_of_the_sheet(self):
        for sheet in drums():
            for many in (0, 9, 12, 15, 18, 21, 24, 27):
                if many == sheet.lines:
                    self.assertFalse(Weave(sheet, [0] * many))
                else:
                    self.assert_raised(InvalidCounts, Weave, sheet, [0] * many)

    def test_wrong_counts_are_told_ahead_of_misfits(self):
        self.assert_raised(InvalidCounts, Weave, Sheet.drum(5), [1] + [0] * 7 + [None])
        self.assert_raised(InvalidCounts, Weave, Sheet.drum(5), [0, 0, 1, 0, 0, 0, 0, 0, -1])
        self.assert_raised(InvalidCounts, Weave, Sheet.drum(5), [1] + [0] * 9)

    def test_lists_may_be_changed_afterwards(self):
        counts = list(RING)
        weave = Weave(Sheet.drum(5), counts)
        self.assertEqual(counts, RING)
        counts[0] = 99
        counts.clear()
        self.assertEqual(weave.counts(), RING)
        weave.counts().append(5)
        weave.counts()[0] = 7
        self.assertEqual(weave.counts(), RING)
        self.assertIsNot(weave.counts(), weave.counts())
        self.assertEqual(weave, ring(Sheet.drum(5), 0))

    def test_the_empty_weave(self):
        for sheet in drums() + [looped()]:
            weave = Weave.empty(sheet)
            self.assertEqual(weave.counts(), [0] * sheet.lines)
            self.assertEqual(weave.total, 0)
            self.assertEqual(weave.sheet, sheet)
            self.assertEqual(Weave.empty(sheet=sheet), Weave(sheet, [0] * sheet.lines))


class Asking(WeaveCase):
    def test_total_is_the_sum_of_the_counts(self):
        for weave in some_weaves():
            self.assertEqual(weave.total, sum(weave.counts()))

    def test_crossings_in_both_directions(self):
        for weave in some_weaves():
            for x in range(1, weave.sheet.lines + 1):
                self.assertEqual(weave.crossings(x), weave.counts()[x - 1])
                self.assertEqual(weave.crossings(-x), weave.counts()[x - 1])
        self.assertEqual(Weave(Sheet.drum(5), RING).crossings(line=-7), 1)

    def test_arcs_by_hand(self):
        weave = ring(Sheet.drum(5), 0)
        self.assertEqual([x for x in signed(weave.sheet) if weave.arcs(x) == 1], [1, -3, 4, 7])
        self.assertEqual([weave.arcs(x) for x in (-1, 3, 5, -7)], [0, 0, 0, 0])
        around = loop(Sheet.drum(5), 1)
        self.assertEqual([around.arcs(x) for x in (1, 5, -4, -1, 7, -8)], [0, 0, 1, 0, 0, 1])
        self.assertEqual((around * 3).arcs(line=-8), 3)

    def test_arcs_of_rings_are_around_the_nail(self):
        for sheet in many_sheets()[::5] + [looped()]:
            for nail in range(sheet.nails):
                weave = ring(sheet, nail)
                for x in signed(sheet):
                    self.assertEqual(weave.arcs(x), int(sheet.ends(x)[0] == nail))

    def test_arcs_at_the_corners_add_up(self):
        for weave in some_weaves():
            for x in signed(weave.sheet):
                _, y, z = weave.sheet.triangle(x)
                a, b, c = weave.crossings(x), weave.crossings(y), weave.crossings(z)
                self.assertEqual(2 * weave.arcs(x), a + c - b)
                self.assertEqual(weave.arcs(x) + weave.arcs(y), a)
                self.assertEqual(2 * (weave.arcs(x) + weave.arcs(y) + weave.arcs(z)), a + b + c)
                self.assertGreaterEqual(weave.arcs(x), 0)

    def test_arcs_of_great_weaves(self):
        weave = loop(Sheet.drum(5), 1) * HUGE
        self.assertEqual([weave.arcs(x) for x in (1, 5, -4)], [0, 0, HUGE])
        self.assertEqual(weave.crossings(-2), HUGE)

    def test_wrong_lines(self):
        weave, big = ring(Sheet.drum(5), 0), Weave.empty(Sheet.drum(10))
        for line in NO_LINES:
            for ask in (weave.crossings, weave.arcs):
                with self.subTest(line=line, ask=ask.__name__):
                    self.assertIs(self.assert_raised(InvalidLine, ask, line).given, line)
        for ask in (big.crossings, big.arcs):
            self.assertEqual([ask(24), ask(-24)], [0, 0])
            self.assert_raised(InvalidLine, ask, 25)
            self.assert_raised(InvalidLine, ask, -25)

    def test_properties_cannot_be_assigned(self):
        weave = ring(Sheet.drum(5), 0)
        for name in ("sheet", "total"):
            self.assertRaises(AttributeError, setattr, weave, name, 1)


class Comparing(WeaveCase):
    def test_equal_sheets_and_counts(self):
        sheet, again = Sheet.drum(5), Sheet(Sheet.drum(5).triangles()[::-1], order=[0, 1, 2, 3, 4])
        self.assertIs(Weave(sheet, RING) == Weave(again, tuple(RING)), True)
        self.assertIs(Weave(sheet, RING) != Weave(again, tuple(RING)), False)

    def test_other_counts(self):
        sheet = Sheet.drum(5)
        self.assertIs(ring(sheet, 0) == ring(sheet, 1), False)
        self.assertIs(ring(sheet, 0) != ring(sheet, 1), True)
        self.assertNotEqual(ring(sheet, 0), Weave.empty(sheet))
        self.assertNotEqual(ring(sheet, 0), ring(sheet, 0) * 2)

    def test_other_sheets(self):
        sheet = Sheet.drum(5)
        others = [Sheet(sheet.triangles(), order=[0, 1, 2, 4, 3]), sheet.flipped(1), sheet.flipped(1, 1)]
        for other in others:
            self.assertIs(Weave.empty(sheet) == Weave.empty(other), False)
            self.assertIs(Weave.empty(sheet) != Weave.empty(other), True)
        self.assertNotEqual(Weave.empty(sheet), Weave.empty(Sheet.drum(6)))

    def test_a_weave_equals_nothing_else(self):
        weave = ring(Sheet.drum(5), 0)

        class Agreeable:
            def __eq__(self, other):
                return True

        for value in [None, True, 4, "Weave(4 crossings)", RING, tuple(RING), weave.sheet, object(), Agreeable()]:
            self.assertIs(weave == value, False)
            self.assertIs(weave != value, True)
        self.assertIs(weave.sheet == weave, False)
        self.assertIs(RING == weave, False)

    def test_truth(self):
        for weave in some_weaves() + [ring(Sheet.drum(5), 0) * HUGE]:
            self.assertIs(bool(weave), weave.total > 0)
        for sheet in drums() + [looped()]:
            self.assertIs(bool(Weave.empty(sheet)), False)
            self.assertIs(bool(ring(sheet, sheet.nails - 1)), True)

    def test_repr(self):
        sheet = Sheet.drum(5)
        self.assertEqual(repr(ring(sheet, 0) * 3), "Weave(12 crossings)")
        self.assertEqual(repr(Weave.empty(sheet)), "Weave(0 crossings)")
        self.assertEqual(repr(ring(sheet, 3) * HUGE), f"Weave({3 * HUGE} crossings)")
        # No weave has one crossing, so the word never needs another form.
        self.assertEqual(repr(loop(sheet, 1)), "Weave(6 crossings)")


class Reckoning(WeaveCase):
    def test_the_sum_has_the_added_counts(self):
        for sheet in many_sheets()[::7] + [looped()]:
            rings = [ring(sheet, nail) for nail in range(sheet.nails)]
            loops = [loop(sheet, line) for line in loopable(sheet)]
            for one, other in zip(rings + loops, loops + rings):
                both = one + other
                self.assertEqual(both.counts(), [a + b for a, b in zip(one.counts(), other.counts())])
                self.assertEqual(both.sheet, sheet)
                self.assertEqual(other + one, both)
                self.assertEqual(one + Weave.empty(sheet), one)

    def test_great_sums(self):
        one, other = ring(Sheet.drum(5), 0) * HUGE, loop(Sheet.drum(5), 2) * HUGE
        self.assertEqual((one + other).total, 10 * HUGE)
        self.assertEqual((one + one).counts(), [2 * HUGE * count for count in RING])

    def test_sums_leave_their_parts(self):
        one, other = ring(Sheet.drum(5), 0), loop(Sheet.drum(5), 2)
        both = one + other
        both += one
        self.assertEqual(one.counts(), RING)
        self.assertEqual(other, loop(Sheet.drum(5), 2))
        self.assertEqual(both, one * 2 + other)

    def test_multiples_from_both_sides(self):
        for weave in some_weaves()[::3]:
            for factor in (0, 1, 2, 7, HUGE):
                self.assertEqual((weave * factor).counts(), [factor * count for count in weave.counts()])
                self.assertEqual((factor * weave).counts(), [factor * count for count in weave.counts()])
                self.assertEqual((factor * weave).sheet, weave.sheet)
            self.assertEqual(weave * 3, weave + weave + weave)
            self.assertEqual(weave * 0, Weave.empty(weave.sheet))

    def test_wrong_factors(self):
        weave = ring(Sheet.drum(5), 0)
        for factor in NO_NUMBERS + [-1, -2, -HUGE]:
            for call in (lambda: weave * factor, lambda: factor * weave):
                with self.subTest(factor=factor):
                    error = self.assert_raised(InvalidFactor, call)
                    self.assertIs(error.given, factor)
        self.assert_raised(InvalidFactor, lambda: Weave.empty(weave.sheet) * True)
        self.assert_raised(InvalidFactor, lambda: -1 * Weave.empty(weave.sheet))

    def test_within(self):
        sheet = Sheet.drum(5)
        one, other = ring(sheet, 0), loop(sheet, 1)
        self.assertIs(one.within(one), True)
        self.assertIs(one.within(other=one * 2), True)
        self.assertIs((one * 2).within(one), False)
        self.assertIs(one.within(other), False)
        self.assertIs(other.within(one), False)
        self.assertIs(other.within(one + other), True)
        self.assertIs(Weave.empty(sheet).within(one), True)
        self.assertIs(one.within(Weave.empty(sheet)), False)
        self.assertIs((one * HUGE).within(one * (HUGE + 1)), True)
        self.assertIs((one * (HUGE + 1)).within(one * HUGE), False)

    def test_within_by_all_counts(self):
        made = [weave for weave in some_threads() if weave.sheet == looped()]
        for one, other in itertools.product(made, repeat=2):
            expected = all(a <= b for a, b in zip(one.counts(), other.counts()))
            self.assertIs(one.within(other), expected)

    def test_other_sheets(self):
        sheet = Sheet.drum(5)
        weave = ring(sheet, 0)
        others = [
            Sheet.drum(6), sheet.flipped(1), sheet.flipped(-1), sheet.renamed([2, 3, 1, 5, 6, 4, 8, 9, 7]),
            Sheet(sheet.triangles(), order=[0, 1, 2, 4, 3]),
        ]
        for other in others:
            for its in (Weave.empty(other), ring(other, 0)):
                self.assertEqual(self.assert_raised(OtherSheet, lambda: weave + its).code, "OtherSheet")
                self.assert_raised(OtherSheet, lambda: its + weave)
                self.assert_raised(OtherSheet, weave.within, its)
                self.assert_raised(OtherSheet, its.within, weave)

    def test_equal_sheets_need_not_be_the_same(self):
        self.assertEqual(ring(Sheet.drum(5), 0) + ring(Sheet.drum(5), 0), ring(Sheet.drum(5), 0) * 2)
        self.assertTrue(ring(Sheet.drum(5), 0).within(ring(Sheet.drum(5), 0)))


if __name__ == "__main__":
    unittest.main()
