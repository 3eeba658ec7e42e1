import unittest

from flipthreads.loops import loop, ring
from flipthreads.paths import Crossed, Gone, Laid, Laying, lay
from flipthreads.sheets import Sheet
from flipthreads.walks import word
from flipthreads.weaves import Weave
from samples import (
    AROUND, FULL_THREAD, NO_LINES, NO_LISTS, backwards, carried, deep, detours, drums, joined_words, loopable, looped,
    many_sheets, plain_threads, plain_tight, signed, some_threads, turned,
)


def counts_of(sheet, path):
    return [sum(abs(x) == line for x in path) for line in range(1, sheet.lines + 1)]


def plain_told(sheet, path):
    """What is to be told of a path, by the words of [19]."""
    left = plain_tight(path)
    if not left:
        return "gone"
    weave = Weave(sheet, counts_of(sheet, left))
    one = len(plain_threads(weave)) == 1 and word(weave) in (left, plain_tight(backwards(left)))
    return "laid" if one else "crossed"


def others(sheet, path, thread):
    """All answers of the four classes for a path."""
    return {
        "unknown": Laying(sheet, path), "laid": Laid(sheet, path, thread), "crossed": Crossed(sheet, path),
        "gone": Gone(sheet, path),
    }


class LayingPaths(unittest.TestCase):
    def check_answer(self, sheet, path, found):
        self.assertEqual(found.told(), plain_told(sheet, path))
        self.assertIs(found.holds(), True)
        self.assertEqual(found.path, tuple(path))
        self.assertEqual(found.sheet, sheet)
        for name, answer in others(sheet, path, Weave(sheet, counts_of(sheet, plain_tight(path)))).items():
            self.assertIs(answer.holds(), name == found.told())

    def test_by_hand(self):
        sheet = Sheet.drum(5)
        self.assertEqual(lay(sheet, AROUND).thread, loop(sheet, 1))
        self.assertEqual(lay(sheet=sheet, path=tuple(AROUND)).told(), "laid")
        self.assertEqual(lay(sheet, AROUND + AROUND).told(), "crossed")
        self.assertEqual(lay(sheet, [1, -1]).told(), "gone")
        self.assertEqual(lay(sheet, []).told(), "gone")
        self.assertEqual(lay(sheet, [2, -6, 6, 5, 4, -3, 7, 8]).thread, loop(sheet, 1))

    def test_kinds_of_the_answers(self):
        sheet = Sheet.drum(5)
        self.assertIs(type(lay(sheet, AROUND)), Laid)
        self.assertIs(type(lay(sheet, AROUND * 2)), Crossed)
        self.assertIs(type(lay(sheet, ())), Gone)
        self.assertIs(type(lay(sheet, AROUND).thread), Weave)
        self.assertEqual([kind.__bases__ for kind in (Laid, Crossed, Gone)], [(Laying,)] * 3)

    def test_words_are_laid(self):
        for at, thread in enumerate(some_threads()[::2]):
            sheet, way = thread.sheet, list(word(thread))
            for path in (way, backwards(way), turned(way, at % len(way)), tuple(way), detours(sheet, way, at),
                         detours(sheet, backwards(way), at + 1)):
                found = lay(sheet, path)
                self.assertEqual((found.told(), found.thread), ("laid", thread))
                self.check_answer(sheet, path, found)

    def test_paths_that_go_around_several_times_cross_themselves(self):
        for at, thread in enumerate(some_threads()[::6]):
            sheet, way = thread.sheet, list(word(thread))
            for path in (way * 2, backwards(way) * 3, detours(sheet, way * 2, at)):
                found = lay(sheet, path)
                self.assertEqual(found.told(), "crossed")
                self.check_answer(sheet, path, found)

    def test_paths_that_are_gone(self):
        for at, sheet in enumerate(drums() + [looped()]):
            way = list(word(loop(sheet, 2)))
            for path in ([], way + backwards(way), detours(sheet, way + backwards(way), at), [3, -3], [-3, 3] * 2):
                self.check_answer(sheet, path, lay(sheet, path))
                self.assertEqual(lay(sheet, path).told(), "gone")

    def test_joined_words(self):
        told = []
        for at, sheet in enumerate(many_sheets()[::13] + [looped()]):
            lines = loopable(sheet)
            one, other = loop(sheet, lines[at % 3]), loop(sheet, lines[3 + at % 4])
            rings = [ring(sheet, nail) for nail in sheet.ends(lines[at % len(lines)])]
            for path in joined_words(one, other)[::7] + joined_words(*rings) + joined_words(one, one)[::9]:
                found = lay(sheet, path)
                self.check_answer(sheet, path, found)
                told.append(found.told())
        self.assertGreater(min(told.count(name) for name in ("laid", "crossed", "gone")), 10)

    def test_two_rings_that_are_joined(self):
        sheet = Sheet.drum(5)
        met = [lay(sheet, path) for path in joined_words(ring(sheet, 0), ring(sheet, 1))]
        self.assertIn(loop(sheet, 1), [found.thread for found in met if found])
        self.assertIn("crossed", [found.told() for found in met])

    def test_lines_that_begin_and_end_at_one_nail(self):
        sheet = looped()
        self.assertEqual(sheet.ends(8), (2, 2))
        crossing = [thread for thread in [ring(sheet, nail) for nail in range(5)]
                    + [loop(sheet, line) for line in loopable(sheet)] if thread.crossings(8)]
        self.assertNotEqual(crossing, [])
        for at, thread in enumerate(crossing):
            path = detours(sheet, word(thread), at)
            self.assertEqual(lay(sheet, path).thread, thread)
            self.check_answer(sheet, path, lay(sheet, path))

    def test_threads_that_flips_carry(self):
        for at, sheet in enumerate(drums()):
            for thread in carried(loop(sheet, at + 1), 10, at):
                self.assertEqual(lay(thread.sheet, word(thread)).thread, thread)

    def test_long_paths(self):
        thread = Weave(Sheet.drum(5), FULL_THREAD)
        found = lay(thread.sheet, word(thread))
        self.assertEqual(found.thread, thread)
        self.assertIs(found.holds(), True)


class Answers(unittest.TestCase):
    def test_what_is_told(self):
        sheet = Sheet.drum(5)
        expected = {"unknown": False, "laid": True, "crossed": False, "gone": False}
        for name, answer in others(sheet, AROUND, loop(sheet, 1)).items():
            self.assertEqual(answer.told(), name)
            self.assertEqual(repr(answer), f"Laying({name})")
            self.assertIs(answer.possible, expected[name])
            self.assertIs(bool(answer), expected[name])
            self.assertIs(answer.sheet, sheet)
            self.assertEqual(answer.path, tuple(AROUND))
            self.assertIs(type(answer.path), tuple)
            self.assertIs(hasattr(answer, "thread"), name == "laid")

    def test_parameters_by_name(self):
        sheet, thread = Sheet.drum(5), loop(Sheet.drum(5), 1)
        self.assertEqual(Laid(thread=thread, path=AROUND, sheet=sheet).thread, thread)
        for kind in (Laying, Crossed, Gone):
            self.assertEqual(kind(path=AROUND, sheet=sheet).path, tuple(AROUND))

    def test_laying_itself_never_holds(self):
        sheet = Sheet.drum(5)
        for path in (AROUND, AROUND * 2, [], [1, -1], [0], None):
            self.assertIs(Laying(sheet, path).holds(), False)

    def test_laid_with_another_thread(self):
        sheet = Sheet.drum(5)
        self.assertIs(Laid(sheet, AROUND, loop(sheet, 1)).holds(), True)
        self.assertIs(Laid(sheet, AROUND, Weave(Sheet.drum(5), loop(sheet, 1).counts())).holds(), True)
        again = Sheet(sheet.triangles(), order=[1, 0, 2, 3, 4])
        for thread in (
            loop(sheet, 2), loop(sheet, 1) * 2, Weave.empty(sheet), ring(sheet, 0), loop(sheet, 1).flipped(1),
            loop(Sheet.drum(6), 1), loop(again, 1), None,
        ):
            self.assertIs(Laid(sheet, AROUND, thread).holds(), False)

    def test_laid_for_paths_that_cannot_be_laid(self):
        sheet = Sheet.drum(5)
        for path, thread in (
            (AROUND * 2, loop(sheet, 1) * 2), (AROUND * 2, loop(sheet, 1)), ([], Weave.empty(sheet)),
            ([1, -1], Weave.empty(sheet)), ([], None), (AROUND * 2, None), ([0], None),
        ):
            self.assertIs(Laid(sheet, path, thread).holds(), False)

    def test_another_sheet(self):
        sheet = Sheet.drum(5)
        other = sheet.flipped(1)
        path = list(word(loop(sheet, 1).flipped(1)))
        self.assertIs(Laid(other, path, loop(sheet, 1).flipped(1)).holds(), True)
        for answer in (Laid(sheet, path, loop(sheet, 1)), Crossed(sheet, path), Gone(sheet, path)):
            self.assertIs(answer.holds(), False)

    def test_values_that_are_no_path(self):
        sheet, thread = Sheet.drum(5), loop(Sheet.drum(5), 1)
        wrong = [AROUND + [value] for value in NO_LINES] + [[value] for value in NO_LINES]
        wrong += [[1], [2, 4], AROUND[:5], [1, 1], deep(1, 9), deep(1, 10), ["2", "5", "4", "-3", "7", "8"]]
        for path in wrong:
            for answer in others(sheet, path, thread).values():
                self.assertIs(answer.holds(), False)
                self.assertEqual(answer.path, tuple(path))
                self.assertEqual([type(item) for item in answer.path], [type(item) for item in path])

    def test_values_that_are_no_list(self):
        sheet, thread = Sheet.drum(5), loop(Sheet.drum(5), 1)
        for path in NO_LISTS:
            for answer in others(sheet, path, thread).values():
                self.assertIs(answer.holds(), False)

    def test_passed_lists_may_be_changed(self):
        sheet = Sheet.drum(5)
        path = list(AROUND)
        found = lay(sheet, path)
        path.clear()
        self.assertEqual(found.path, tuple(AROUND))
        self.assertIs(found.holds(), True)
        for kind in (Laying, Crossed, Gone, lambda sheet, path: Laid(sheet, path, loop(sheet, 1))):
            path = [[1], ([2, [3]],), 4]
            answer = kind(sheet, path)
            path[0].append(5)
            path[1][0][1].append(6)
            path.append(7)
            self.assertEqual(answer.path, ([1], ([2, [3]],), 4))

    def test_returned_lists_may_be_changed(self):
        sheet = Sheet.drum(5)
        for kind in (Laying, Crossed, Gone, lambda sheet, path: Laid(sheet, path, loop(sheet, 1))):
            answer = kind(sheet, [[1], ([2, [3]],), 4])
            answer.path[0].append(5)
            answer.path[1][0][1].append(6)
            self.assertEqual(answer.path, ([1], ([2, [3]],), 4))

    def test_answers_never_change(self):
        sheet = Sheet.drum(5)
        found = lay(sheet, AROUND)
        with self.assertRaises(AttributeError):
            found.thread = loop(sheet, 2)
        with self.assertRaises(AttributeError):
            found.path = ()
        for x in signed(sheet):
            lay(sheet, [x, -x])
        self.assertEqual((found.thread, found.path), (loop(sheet, 1), tuple(AROUND)))


if __name__ == "__main__":
    unittest.main()
