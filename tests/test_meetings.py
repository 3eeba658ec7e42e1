import unittest

from flipthreads.errors import OtherSheet, TooGreat
from flipthreads.loops import loop, ring
from flipthreads.meetings import Apart, Crossing, Meeting, meet
from flipthreads.sheets import Sheet
from flipthreads.splits import split, threads
from flipthreads.weaves import Weave
from samples import (
    FULL_THREAD, GREAT_THREAD, carried, drums, loopable, looped, many_sheets, plain_threads, renamings, some_weaves,
)


def plain_strangers(one, other):
    """The counts of the threads that the sum has more often than both together, ascending."""
    both = plain_threads(one) + plain_threads(other)
    found = plain_threads(one + other)
    return [row for at, row in enumerate(found) if row not in found[:at] and found.count(row) > both.count(row)]


def some_pairs():
    """Pairs of weaves on one sheet, some of which can be laid apart."""
    made = []
    for at, sheet in enumerate(many_sheets()[::9] + [looped()]):
        lines = loopable(sheet)
        weaves = [loop(sheet, lines[k]) for k in (0, at % len(lines), -1)]
        weaves += [ring(sheet, at % sheet.nails), weaves[0] * 2, weaves[0] + weaves[1], Weave.empty(sheet)]
        made += [(one, other) for one in weaves for other in weaves]
    return made


class Meetings(unittest.TestCase):
    def check_answer(self, one, other):
        found, expected = meet(one, other), plain_strangers(one, other)
        self.assertIs(found.apart, expected == [])
        self.assertIs(found.holds(), True)
        self.assertEqual((found.one, found.other), (one, other))
        self.assertIs(Apart(one, other).holds(), expected == [])
        if expected:
            self.assertEqual(found.stranger.counts(), expected[0])
            self.assertEqual(found.stranger.sheet, one.sheet)
        both = split(one + other) + split(one) + split(other)
        for thread, _ in both:
            self.assertIs(Crossing(one, other, thread).holds(), thread.counts() in expected)
        return found

    def test_by_hand(self):
        sheet = Sheet.drum(5)
        found = meet(loop(sheet, 1), loop(sheet, 2))
        self.assertEqual((found.told(), found.stranger.counts()), ("crossing", [0, 0, 2, 1, 1, 1, 1, 1, 1]))
        self.assertIs(meet(loop(sheet, 1), ring(sheet, 1)).apart, True)
        self.assertIs(type(meet(one=loop(sheet, 1), other=loop(sheet, 2))), Crossing)
        self.assertIs(type(meet(other=loop(sheet, 1), one=ring(sheet, 1))), Apart)

    def test_loops_by_the_nails_in_common(self):
        met = {0: set(), 1: set(), 2: set()}
        for sheet in drums()[:4] + [looped()]:
            for line in loopable(sheet)[::2]:
                for other in loopable(sheet):
                    common = len(set(sheet.ends(line)) & set(sheet.ends(other)))
                    found = self.check_answer(loop(sheet, line), loop(sheet, other))
                    met[common].add(found.told())
                    if common == 1:
                        self.assertFalse(found)
                    if common == 0:
                        self.assertTrue(found)
                    if line == other:
                        self.assertTrue(found)
        self.assertEqual(met, {0: {"apart"}, 1: {"crossing"}, 2: {"apart", "crossing"}})

    def test_many_pairs(self):
        told = [self.check_answer(one, other).told() for one, other in some_pairs()]
        self.assertGreater(min(told.count("apart"), told.count("crossing")), 50)

    def test_a_weave_with_itself_and_its_parts(self):
        for weave in some_weaves()[::4]:
            self.assertTrue(meet(weave, weave))
            self.assertTrue(meet(weave * 2, weave))
            for thread in threads(weave):
                self.assertTrue(meet(weave, thread))
                self.assertTrue(meet(thread, weave))

    def test_rings_and_the_empty_weave(self):
        for weave in some_weaves()[::3]:
            for nail in range(weave.sheet.nails):
                found = meet(weave, ring(weave.sheet, nail))
                self.assertIs(found.apart, True)
                self.assertIs(found.holds(), True)
            self.assertTrue(meet(weave, Weave.empty(weave.sheet)))
            self.assertTrue(meet(Weave.empty(weave.sheet), weave))

    def test_the_order_of_the_weaves_does_not_matter(self):
        for one, other in some_pairs()[::5]:
            found, again = meet(one, other), meet(other, one)
            self.assertEqual(found.told(), again.told())
            if not found:
                self.assertEqual(found.stranger, again.stranger)

    def test_flips_and_renamings_do_not_matter(self):
        sheet = Sheet.drum(6)
        for one, other in ((loop(sheet, 1), loop(sheet, 2)), (loop(sheet, 1), loop(sheet, 3))):
            told = meet(one, other).told()
            for here, there in zip(carried(one, 15, 3), carried(other, 15, 3)):
                self.assertEqual(meet(here, there).told(), told)
            for renaming in renamings(sheet):
                self.assertEqual(meet(one.renamed(renaming), other.renamed(renaming)).told(), told)

    def test_some_threads_are_strangers_and_some_are_not(self):
        sheet = Sheet.drum(7)
        one, other = loop(sheet, 1) + ring(sheet, 5), loop(sheet, 2) + loop(sheet, 4) * 2
        found = self.check_answer(one, other)
        self.assertEqual(found.told(), "crossing")
        self.assertNotEqual(found.stranger, ring(sheet, 5))

    def test_other_sheets(self):
        sheet = Sheet.drum(5)
        again = Sheet(sheet.triangles(), order=[1, 0, 2, 3, 4])
        for other in (Sheet.drum(6), sheet.flipped(1), again):
            self.assertRaises(OtherSheet, meet, loop(sheet, 1), loop(other, 1))
            self.assertRaises(OtherSheet, meet, loop(sheet, 1) * 10 ** 9, loop(other, 1) * 10 ** 9)
        self.assertTrue(meet(loop(sheet, 1), loop(Sheet.drum(5), 1)))

    def test_bounds(self):
        sheet = Sheet.drum(5)
        around = ring(sheet, 0)
        self.assertTrue(meet(around * 625, around * 625))
        self.assertTrue(meet(around * 1250, Weave.empty(sheet)))
        self.assertTrue(meet(Weave(sheet, FULL_THREAD), Weave.empty(sheet)))
        for one, other in (
            (around * 625, around * 626), (around * 1251, Weave.empty(sheet)), (Weave.empty(sheet), around * 1251),
            (Weave(sheet, FULL_THREAD), around), (Weave(sheet, GREAT_THREAD), Weave.empty(sheet)),
            (around * 10 ** 29, around * 10 ** 29),
        ):
            with self.assertRaises(TooGreat) as caught:
                meet(one, other)
            self.assertEqual(caught.exception.most, 5000)


class Answers(unittest.TestCase):
    def test_what_is_told(self):
        one, other, stranger = loop(Sheet.drum(5), 1), loop(Sheet.drum(5), 2), ring(Sheet.drum(5), 3)
        for answer, told, apart in (
            (Meeting(one, other), "unknown", False), (Apart(one, other), "apart", True),
            (Crossing(one, other, stranger), "crossing", False),
        ):
            self.assertEqual(answer.told(), told)
            self.assertEqual(repr(answer), f"Meeting({told})")
            self.assertIs(answer.apart, apart)
            self.assertIs(bool(answer), apart)
            self.assertIs(answer.one, one)
            self.assertIs(answer.other, other)
            self.assertIs(hasattr(answer, "stranger"), told == "crossing")
        self.assertIs(Crossing(one, other, stranger).stranger, stranger)
        self.assertEqual([kind.__bases__ for kind in (Apart, Crossing)], [(Meeting,)] * 2)

    def test_parameters_by_name(self):
        one, other, stranger = loop(Sheet.drum(5), 1), loop(Sheet.drum(5), 2), ring(Sheet.drum(5), 3)
        for kind in (Meeting, Apart):
            answer = kind(other=other, one=one)
            self.assertEqual((answer.one, answer.other), (one, other))
        answer = Crossing(stranger=stranger, other=other, one=one)
        self.assertEqual((answer.one, answer.other, answer.stranger), (one, other, stranger))

    def test_meeting_itself_never_holds(self):
        sheet = Sheet.drum(5)
        self.assertIs(Meeting(loop(sheet, 1), loop(sheet, 1)).holds(), False)
        self.assertIs(Meeting(loop(sheet, 1), loop(sheet, 2)).holds(), False)

    def test_strangers_need_not_be_the_first(self):
        sheet = Sheet.drum(5)
        one, other = loop(sheet, 1), loop(sheet, 2)
        self.assertEqual([times for _, times in split(one + other)], [1, 1])
        for thread, _ in split(one + other):
            self.assertIs(Crossing(one, other, thread).holds(), True)
            self.assertIs(Crossing(other, one, Weave(Sheet.drum(5), thread.counts())).holds(), True)

    def test_wrong_strangers(self):
        sheet = Sheet.drum(5)
        one, other = loop(sheet, 1), loop(sheet, 2)
        first = meet(one, other).stranger
        again = Sheet(sheet.triangles(), order=[1, 0, 2, 3, 4])
        for wrong in (
            one, other, one + other, first * 2, ring(sheet, 0), Weave.empty(sheet), Weave(again, first.counts()),
            loop(Sheet.drum(6), 1), first.flipped(1), first * 10 ** 29,
        ):
            self.assertIs(Crossing(one, other, wrong).holds(), False)
        self.assertIs(Crossing(one, one, one).holds(), False)
        self.assertIs(Crossing(one, ring(sheet, 0), ring(sheet, 0)).holds(), False)

    def test_wrong_answers_that_they_are_apart(self):
        sheet = Sheet.drum(5)
        self.assertIs(Apart(loop(sheet, 1), loop(sheet, 2)).holds(), False)
        self.assertIs(Apart(loop(sheet, 1), loop(sheet, 1) + ring(sheet, 2)).holds(), True)

    def test_other_sheets_and_great_sums(self):
        sheet = Sheet.drum(5)
        for one, other in (
            (loop(sheet, 1), loop(Sheet.drum(6), 1)), (loop(sheet, 1), loop(sheet, 1).flipped(1)),
            (ring(sheet, 0) * 625, ring(sheet, 0) * 626), (ring(sheet, 0) * 10 ** 29, Weave.empty(sheet)),
            (loop(sheet, 1) * 10 ** 9, loop(Sheet.drum(6), 1) * 10 ** 9),
        ):
            self.assertIs(Apart(one, other).holds(), False)
            self.assertIs(Crossing(one, other, one).holds(), False)
            self.assertIs(Crossing(one, other, loop(sheet, 3)).holds(), False)
        self.assertIs(Apart(ring(sheet, 0) * 625, ring(sheet, 0) * 625).holds(), True)

    def test_answers_never_change(self):
        sheet = Sheet.drum(5)
        found = meet(loop(sheet, 1), loop(sheet, 2))
        stranger = found.stranger.counts()
        found.stranger.counts().clear()
        found.one.counts().append(1)
        self.assertEqual(found.stranger.counts(), stranger)
        with self.assertRaises(AttributeError):
            found.one = loop(sheet, 3)
        self.assertIs(found.holds(), True)


if __name__ == "__main__":
    unittest.main()
