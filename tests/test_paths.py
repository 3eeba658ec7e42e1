import unittest

from flipthreads.errors import InvalidPath
from flipthreads.loops import loop, ring
from flipthreads.paths import can_shift, check_path, lay, tight
from flipthreads.sheets import Sheet
from flipthreads.walks import walk, word
from samples import (
    AROUND, NO_LINES, NO_LISTS, backwards, deep, detours, drums, joined_words, loopable, looped, many_sheets,
    plain_tight, signed, some_threads, turned,
)


def refused(sheet, path):
    """The index that check_path tells, or None if the value is a path."""
    try:
        check_path(sheet, path)
    except InvalidPath as error:
        return error.at
    return None


def rambling(sheet, steps, seed):
    """A closed path that goes this way and that, and comes back the way it went."""
    path = [1]
    for _ in range(steps):
        seed = (seed * 1103515245 + 12345) % 2 ** 31
        path.append(-sheet.triangle(path[-1])[(seed >> 8) % 3])
    return path + backwards(path)


class Checking(unittest.TestCase):
    def test_paths(self):
        sheet = Sheet.drum(5)
        for path in ([], (), AROUND, tuple(AROUND), backwards(AROUND), AROUND * 2, [1, -1], [-1, 1], [9, -9] * 3):
            self.assertIsNone(check_path(sheet, path))
        self.assertIsNone(check_path(sheet=sheet, path=AROUND))

    def test_words_are_paths(self):
        for thread in some_threads()[::3]:
            way = list(word(thread))
            for start in range(0, len(way), 4):
                self.assertIsNone(check_path(thread.sheet, turned(way, start)))
                self.assertIsNone(check_path(thread.sheet, backwards(turned(way, start))))

    def test_which_lines_may_follow(self):
        for sheet in many_sheets()[::9] + [looped()]:
            for x in signed(sheet):
                allowed = [-y for y in sheet.triangle(x)]
                for y in signed(sheet):
                    may = y in allowed
                    self.assertEqual(refused(sheet, [x, y, -y, -x]), None if may else 1)
                self.assertIn(-x, allowed)
                self.assertNotIn(x, allowed)

    def test_values_that_are_no_list(self):
        for wrong in NO_LISTS:
            self.assertEqual(refused(Sheet.drum(5), wrong), 0)

    def test_items_that_are_no_signed_line(self):
        sheet = Sheet.drum(5)
        for wrong in NO_LINES:
            for at in range(len(AROUND) + 1):
                self.assertEqual(refused(sheet, AROUND[:at] + [wrong] + AROUND[at:]), at)
            self.assertEqual(refused(sheet, (wrong,)), 0)
            self.assertEqual(refused(sheet, AROUND + [wrong, None, wrong]), 6)
        self.assertEqual(refused(sheet, deep(1, 10)), 0)

    def test_items_that_do_not_follow(self):
        sheet = Sheet.drum(5)
        self.assertEqual(refused(sheet, [2, 4]), 0)
        self.assertEqual(refused(sheet, [1]), 0)
        self.assertEqual(refused(sheet, [1, 1]), 0)
        self.assertEqual(refused(sheet, AROUND[:5]), 0)
        self.assertEqual(refused(sheet, AROUND[1:]), 0)
        self.assertEqual(refused(sheet, [2, 5, -3, 7, 8]), 2)
        self.assertEqual(refused(sheet, [2, 5, 4, -3, 8]), 4)
        self.assertEqual(refused(sheet, [2, 5, 4, 3, 7, 8]), 3)

    def test_all_items_are_looked_at_first(self):
        sheet = Sheet.drum(5)
        self.assertEqual(refused(sheet, [2, 4, None]), 2)
        self.assertEqual(refused(sheet, [1, 1, 1, 1, 10]), 4)
        self.assertEqual(refused(sheet, [1, 1, 1, True, 0]), 3)
        self.assertEqual(refused(sheet, [2, 5, -3, "7", 8]), 3)

    def test_lines_of_another_sheet(self):
        self.assertEqual(refused(Sheet.drum(5), [10, -10]), 0)
        self.assertIsNone(refused(Sheet.drum(6), [10, -10]))
        self.assertIsNone(refused(Sheet.drum(10), [24, -24]))

    def test_the_other_functions_refuse_the_same(self):
        sheet = Sheet.drum(5)
        for path in [[1], [2, 4], [1, 2, 0], AROUND + [None], AROUND[:5], [2, 5, -3, 7, 8], "1", None, True, [[1]]]:
            for call in (
                lambda: tight(sheet, path), lambda: lay(sheet, path), lambda: can_shift(sheet, path, []),
                lambda: can_shift(sheet, AROUND, path),
            ):
                with self.assertRaises(InvalidPath) as caught:
                    call()
                self.assertEqual(caught.exception.at, refused(sheet, path))

    def test_the_first_path_is_looked_at_first(self):
        with self.assertRaises(InvalidPath) as caught:
            can_shift(Sheet.drum(5), AROUND + [0], [2, 4])
        self.assertEqual(caught.exception.at, 6)
        with self.assertRaises(InvalidPath) as caught:
            can_shift(Sheet.drum(5), one=[2, 4], other=AROUND + [0])
        self.assertEqual(caught.exception.at, 0)


class Tight(unittest.TestCase):
    def test_by_hand(self):
        sheet = Sheet.drum(5)
        self.assertEqual(tight(sheet, AROUND), (-3, 7, 8, 2, 5, 4))
        self.assertEqual(tight(sheet, []), ())
        self.assertEqual(tight(sheet, ()), ())
        self.assertEqual(tight(sheet, [1, -1]), ())
        self.assertEqual(tight(sheet, [1, -1, 1, -1, 1, -1]), ())
        self.assertEqual(tight(sheet, [2, -6, 6, 5, 4, -3, 7, 8]), (-3, 7, 8, 2, 5, 4))
        self.assertEqual(tight(sheet=sheet, path=[-2] + AROUND + [2]), (-3, 7, 8, 2, 5, 4))

    def test_turns_back_over_the_end(self):
        sheet = Sheet.drum(5)
        path = [2, -2] + AROUND
        for start in range(len(path)):
            self.assertEqual(tight(sheet, turned(path, start)), (-3, 7, 8, 2, 5, 4))
        path = [8, 2, 5, -5, -2, -8]
        for start in range(len(path)):
            self.assertEqual(tight(sheet, turned(path, start)), ())

    def test_kinds_of_the_values(self):
        path = list(AROUND) + [-8, 8]
        self.assertIs(type(tight(Sheet.drum(5), path)), tuple)
        self.assertEqual(path, AROUND + [-8, 8])

    def test_words_with_detours(self):
        for at, thread in enumerate(some_threads()[::2]):
            sheet, way = thread.sheet, list(word(thread))
            for row in (way, backwards(way), way * 2, turned(way, at % len(way))):
                path = detours(sheet, row, at)
                found = tight(sheet, path)
                self.assertEqual(found, tight(sheet, row))
                self.assertEqual(found, plain_tight(path))
                self.assertEqual(found, tight(sheet, detours(sheet, path, at + 5)))

    def test_words_are_tight(self):
        for thread in some_threads()[::2]:
            way = word(thread)
            self.assertEqual(tight(thread.sheet, way), way)
            self.assertEqual(tight(thread.sheet, way * 3), way * 3)
            self.assertEqual(tight(thread.sheet, way + tuple(backwards(way))), ())

    def test_where_the_path_begins(self):
        for at, thread in enumerate(some_threads()[::15]):
            path = detours(thread.sheet, word(thread), at)
            for start in range(len(path)):
                self.assertEqual(tight(thread.sheet, turned(path, start)), word(thread))

    def test_rambling_paths_are_pulled_to_a_point(self):
        for at, sheet in enumerate(drums() + [looped()]):
            path = rambling(sheet, 150, at)
            for start in (0, 1, 77, 150, 151, 301):
                self.assertEqual(tight(sheet, turned(path, start)), ())

    def test_very_long_paths(self):
        sheet = Sheet.drum(5)
        self.assertEqual(tight(sheet, AROUND * 1000), (-3, 7, 8, 2, 5, 4) * 1000)
        self.assertEqual(tight(sheet, [1, -1] * 3000), ())
        self.assertEqual(lay(sheet, AROUND * 1000).told(), "crossed")


class Shifting(unittest.TestCase):
    def test_by_hand(self):
        sheet = Sheet.drum(5)
        self.assertIs(can_shift(sheet, AROUND, [2, -6, 6, 5, 4, -3, 7, 8]), True)
        self.assertIs(can_shift(sheet, AROUND, turned(AROUND, 2)), True)
        self.assertIs(can_shift(sheet, AROUND, backwards(AROUND)), False)
        self.assertIs(can_shift(sheet, AROUND, AROUND * 2), False)
        self.assertIs(can_shift(sheet, one=AROUND, other=()), False)
        self.assertIs(can_shift(sheet, [1, -1], []), True)
        self.assertIs(can_shift(sheet, (1, -1), [9, -9]), True)

    def test_equal_tight_paths(self):
        paths = []
        sheet = Sheet.drum(6)
        for at, thread in enumerate([ring(sheet, 0), loop(sheet, 1), loop(sheet, 5)]):
            way = list(word(thread))
            paths += [way, turned(way, 2), detours(sheet, way, at), backwards(way)]
            paths += [way * 2, detours(sheet, way * 2, at)]
        paths += [[], [3, -3], rambling(sheet, 20, 1)]
        for one in paths:
            for other in paths:
                self.assertIs(can_shift(sheet, one, other), plain_tight(one) == plain_tight(other))

    def test_joined_words(self):
        sheet = Sheet.drum(5)
        around = list(word(ring(sheet, 0)))
        for path in joined_words(ring(sheet, 0), loop(sheet, 2)):
            self.assertIs(can_shift(sheet, path, turned(path, 3)), True)
            self.assertIs(can_shift(sheet, path, around), plain_tight(path) == plain_tight(around))


class Arguments(unittest.TestCase):
    def test_paths_are_not_changed(self):
        sheet = Sheet.drum(5)
        path, other = [-2] + AROUND + [2], [1, -1]
        check_path(sheet, path)
        tight(sheet, path)
        can_shift(sheet, path, other)
        lay(sheet, path)
        self.assertEqual((path, other), ([-2] + AROUND + [2], [1, -1]))

    def test_walks_are_paths(self):
        for sheet in many_sheets()[::12] + [looped()]:
            for line in loopable(sheet)[::3]:
                thread = loop(sheet, line)
                for x in signed(sheet):
                    for at in range(thread.crossings(x)):
                        path = [y for y, _ in walk(thread, x, at)]
                        self.assertIn(word(thread), (tight(sheet, path), tight(sheet, backwards(path))))


if __name__ == "__main__":
    unittest.main()
