import inspect
import itertools
import unittest

from flipthreads.errors import Misfit, TooGreat
from flipthreads.loops import loop, ring
from flipthreads.sheets import Sheet
from flipthreads.splits import is_thread, split, threads
from flipthreads.weaves import Weave
from samples import (
    FULL_THREAD, GREAT_THREAD, drums, half_turned, looped, many_sheets, plain_threads, signed, some_threads,
    some_weaves,
)


def told(weave):
    return [(thread.counts(), times) for thread, times in split(weave)]


def plain_split(weave):
    return [(counts, len(list(same))) for counts, same in itertools.groupby(plain_threads(weave))]


class Splits(unittest.TestCase):
    def test_by_hand(self):
        sheet = Sheet.drum(5)
        expected = [([0, 0, 2, 1, 1, 1, 1, 1, 1], 1), ([1, 1, 0, 0, 1, 0, 0, 1, 0], 1)]
        self.assertEqual(told(loop(sheet, 1) + loop(sheet, 2)), expected)
        self.assertEqual(told(weave=ring(sheet, 0) * 3 + loop(sheet, 1) * 2), [
            ([0, 1, 1, 1, 1, 0, 1, 1, 0], 2), ([1, 0, 1, 1, 0, 0, 1, 0, 0], 3),
        ])

    def test_the_empty_weave(self):
        for sheet in drums() + [looped()]:
            weave = Weave.empty(sheet)
            self.assertEqual(split(weave), [])
            self.assertEqual(list(threads(weave)), [])
            self.assertIs(is_thread(weave), False)

    def test_single_threads(self):
        for thread in some_threads():
            self.assertEqual(split(thread), [(thread, 1)])
            self.assertEqual(list(threads(thread)), [thread])
            self.assertIs(is_thread(thread), True)

    def test_multiples(self):
        for thread in some_threads()[::5]:
            for times in (2, 3, 10):
                self.assertEqual(split(thread * times), [(thread, times)])
                self.assertEqual(list(threads(thread * times)), [thread] * times)
                self.assertIs(is_thread(thread * times), False)

    def test_sums_of_threads_that_do_not_meet(self):
        for sheet in many_sheets()[::6] + [looped()]:
            rings = [(ring(sheet, nail), nail + 1) for nail in range(sheet.nails)]
            weave = Weave.empty(sheet)
            for thread, times in rings:
                weave += thread * times
            expected = sorted(rings, key=lambda pair: pair[0].counts())
            self.assertEqual(split(weave), expected)
            self.assertEqual(list(threads(weave)), [thread for thread, times in expected for _ in range(times)])
            self.assertIs(is_thread(weave), False)

    def test_splits_of_many_weaves(self):
        several = 0
        for weave in some_weaves():
            found = told(weave)
            self.assertEqual(found, plain_split(weave))
            self.assertEqual([thread.counts() for thread in threads(weave)], plain_threads(weave))
            self.assertIs(is_thread(weave), len(plain_threads(weave)) == 1)
            several += len(found) > 2
        self.assertGreater(several, 20)

    def test_splits_of_all_small_weaves(self):
        sheet, fitting = looped(), 0
        for counts in itertools.product(range(3), repeat=9):
            try:
                weave = Weave(sheet, counts)
            except Misfit:
                continue
            fitting += 1
            self.assertEqual(told(weave), plain_split(weave))
        self.assertGreater(fitting, 50)

    def test_the_threads_add_up(self):
        for weave in some_weaves():
            both = Weave.empty(weave.sheet)
            for thread, times in split(weave):
                self.assertEqual(thread.sheet, weave.sheet)
                self.assertTrue(is_thread(thread))
                self.assertGreater(times, 0)
                both += thread * times
            self.assertEqual(both, weave)

    def test_the_pairs_are_ascending(self):
        for weave in some_weaves():
            counts = [thread.counts() for thread, _ in split(weave)]
            self.assertEqual(counts, sorted(counts))
            self.assertEqual(len({tuple(row) for row in counts}), len(counts))

    def test_flips_carry_the_threads(self):
        for weave in some_weaves()[::4]:
            for x in [x for x in signed(weave.sheet) if weave.sheet.can_flip(x)][::3]:
                carried = sorted((thread.flipped(x).counts(), times) for thread, times in split(weave))
                self.assertEqual(told(weave.flipped(x)), carried)

    def test_renamings_carry_the_threads(self):
        for weave in some_weaves()[::7]:
            renaming = list(range(-weave.sheet.lines, 0))
            carried = sorted((thread.renamed(renaming).counts(), times) for thread, times in split(weave))
            self.assertEqual(told(weave.renamed(renaming)), carried)

    def test_kinds_of_the_values(self):
        weave = loop(Sheet.drum(5), 1) * 2
        self.assertIs(type(split(weave)), list)
        self.assertIs(type(split(weave)[0]), tuple)
        self.assertIs(type(split(weave)[0][0]), Weave)
        self.assertIs(type(split(weave)[0][1]), int)
        self.assertTrue(inspect.isgenerator(threads(weave)))
        self.assertEqual(list(threads(weave=weave)), list(threads(weave)))
        self.assertIs(is_thread(weave=weave), False)

    def test_returned_lists_may_be_changed(self):
        weave = loop(Sheet.drum(5), 1) * 2 + ring(Sheet.drum(5), 0)
        before = split(weave)
        found = split(weave)
        found[0][0].counts().clear()
        found.clear()
        self.assertEqual(split(weave), before)
        self.assertEqual(weave, loop(Sheet.drum(5), 1) * 2 + ring(Sheet.drum(5), 0))


class Bounds(unittest.TestCase):
    def test_a_total_of_5000(self):
        sheet = Sheet.drum(5)
        weave = ring(sheet, 0) * 1250
        self.assertEqual(weave.total, 5000)
        self.assertEqual(split(weave), [(ring(sheet, 0), 1250)])
        self.assertEqual(len(list(threads(weave))), 1250)
        self.assertIs(is_thread(weave), False)

    def test_one_thread_with_a_total_of_5000(self):
        thread = Weave(Sheet.drum(5), FULL_THREAD)
        self.assertEqual(thread.total, 5000)
        self.assertEqual(split(thread), [(thread, 1)])
        self.assertEqual(list(threads(thread)), [thread])
        self.assertIs(is_thread(thread), True)

    def test_long_threads_beside_others(self):
        sheet = Sheet.drum(5)
        thread = half_turned(loop(sheet, 2), 300)
        weave = thread * 2 + ring(sheet, 0) * 3 + ring(sheet, 4)
        expected = [(ring(sheet, 4), 1), (ring(sheet, 0), 3), (thread, 2)]
        self.assertEqual(split(weave), sorted(expected, key=lambda pair: pair[0].counts()))

    def test_greater_totals(self):
        sheet = Sheet.drum(5)
        self.assertEqual((ring(sheet, 3) * 1667).total, 5001)
        self.assertEqual(Weave(sheet, GREAT_THREAD).total, 5001)
        for weave in (
            ring(sheet, 3) * 1667, Weave(sheet, GREAT_THREAD), ring(sheet, 0) * 1251, ring(sheet, 0) * 10 ** 29,
            ring(Sheet.drum(10), 0) * 1251, loop(looped(), 2) * 10 ** 31,
        ):
            for call in (split, is_thread, lambda given: next(threads(given)), lambda given: list(threads(given))):
                with self.assertRaises(TooGreat) as caught:
                    call(weave)
                self.assertEqual(caught.exception.most, 5000)

    def test_errors_wait_for_the_first_item(self):
        found = threads(ring(Sheet.drum(5), 0) * 1251)
        self.assertRaises(TooGreat, next, found)


if __name__ == "__main__":
    unittest.main()
