import itertools
import unittest

from flipthreads.errors import InvalidNail, Misfit, NotThread, TooGreat
from flipthreads.loops import loop, ring
from flipthreads.sheets import Sheet
from flipthreads.sides import is_ring, parting, rooms, sides
from flipthreads.splits import is_thread, split, threads
from flipthreads.weaves import Weave
from samples import (
    FULL_THREAD, GREAT_THREAD, NO_NUMBERS, braided, carried, drums, loopable, looped, many_sheets, renamings,
    some_threads, some_weaves,
)

NO_NAILS = NO_NUMBERS + [-1, 5, 6, 10, 10 ** 29, -10 ** 29]


def pair(nails, some):
    """Both sides, if some of the nails are on one of them."""
    rest = [nail for nail in range(nails) if nail not in some]
    return (sorted(some), rest) if 0 in some else (rest, sorted(some))


def some_sheets():
    return many_sheets()[::6] + [looped()]


class Sides(unittest.TestCase):
    def test_by_hand(self):
        sheet = Sheet.drum(5)
        self.assertEqual(sides(loop(sheet, 1)), ([0, 1], [2, 3, 4]))
        self.assertEqual(sides(thread=loop(sheet, 2)), ([0, 3, 4], [1, 2]))
        self.assertEqual(sides(ring(sheet, 0)), ([0], [1, 2, 3, 4]))
        self.assertEqual(sides(ring(sheet, 3)), ([0, 1, 2, 4], [3]))
        self.assertEqual(sides(Weave(sheet, [0, 0, 2, 1, 1, 1, 1, 1, 1])), ([0, 1, 2], [3, 4]))

    def test_rings(self):
        for sheet in some_sheets():
            for nail in range(sheet.nails):
                self.assertEqual(sides(ring(sheet, nail)), pair(sheet.nails, [nail]))

    def test_loops(self):
        for sheet in some_sheets():
            for line in loopable(sheet):
                self.assertEqual(sides(loop(sheet, line)), pair(sheet.nails, list(sheet.ends(line))))

    def test_a_line_stays_on_a_side_if_it_is_crossed_evenly(self):
        for thread in some_threads():
            near, far = sides(thread)
            self.assertEqual(sorted(near + far), list(range(thread.sheet.nails)))
            self.assertEqual((near, far), (sorted(near), sorted(far)))
            self.assertEqual(near[0], 0)
            self.assertNotEqual(far, [])
            for line in range(1, thread.sheet.lines + 1):
                begin, end = thread.sheet.ends(line)
                self.assertEqual((begin in near) == (end in near), thread.crossings(line) % 2 == 0)

    def test_sides_stay_behind_flips(self):
        for at, sheet in enumerate(drums() + [looped()]):
            for line in loopable(sheet)[::4]:
                thread = loop(sheet, line)
                for other in carried(thread, 12, at + line):
                    self.assertEqual(sides(other), sides(thread))

    def test_sides_stay_behind_renamings(self):
        for thread in some_threads()[::9]:
            for renaming in renamings(thread.sheet):
                self.assertEqual(sides(thread.renamed(renaming)), sides(thread))

    def test_other_numbers_of_the_nails(self):
        drum = Sheet.drum(5)
        sheet = Sheet(drum.triangles(), order=[4, 3, 2, 1, 0])
        for line in range(1, 10):
            some = [4 - drum.order().index(nail) for nail in drum.ends(line)]
            self.assertEqual(sides(loop(sheet, line)), pair(5, some))

    def test_what_is_no_single_thread(self):
        for weave in some_weaves() + [loop(Sheet.drum(5), 1) * 2, Weave.empty(looped())]:
            if is_thread(weave):
                self.assertEqual(len(sides(weave)), 2)
            else:
                self.assertRaises(NotThread, sides, weave)

    def test_the_first_error_is_raised(self):
        sheet = Sheet.drum(5)
        for weave in (ring(sheet, 0) * 1251, Weave(sheet, GREAT_THREAD), ring(sheet, 3) * 1667):
            with self.assertRaises(TooGreat) as caught:
                sides(weave)
            self.assertEqual(caught.exception.most, 5000)
        self.assertRaises(NotThread, sides, ring(sheet, 0) * 1250)
        near, far = sides(Weave(sheet, FULL_THREAD))
        self.assertEqual(sorted(near + far), [0, 1, 2, 3, 4])

    def test_kinds_of_the_values(self):
        thread = loop(Sheet.drum(5), 1)
        found = sides(thread)
        self.assertIs(type(found), tuple)
        self.assertEqual([type(side) for side in found], [list, list])
        found[0].clear()
        found[1].append(7)
        self.assertEqual(sides(thread), ([0, 1], [2, 3, 4]))


class Rings(unittest.TestCase):
    def test_rings_and_loops(self):
        for sheet in some_sheets():
            for nail in range(sheet.nails):
                self.assertIs(is_ring(ring(sheet, nail)), True)
                self.assertIs(is_ring(ring(sheet, nail) * 2), False)
            for line in loopable(sheet):
                self.assertIs(is_ring(loop(sheet, line)), False)
            self.assertIs(is_ring(Weave.empty(sheet)), False)
            self.assertIs(is_ring(weave=ring(sheet, 0) + ring(sheet, 1)), False)

    def test_rings_stay_rings_behind_flips(self):
        for at, sheet in enumerate(drums()):
            self.assertTrue(all(is_ring(weave) for weave in carried(ring(sheet, at), 15, at)))
            self.assertFalse(any(is_ring(weave) for weave in carried(loop(sheet, at + 1), 15, at)))

    def test_a_thread_is_a_ring_if_it_is_the_ring_around_a_nail(self):
        for weave in some_weaves():
            rings = [ring(weave.sheet, nail) for nail in range(weave.sheet.nails)]
            self.assertIs(is_ring(weave), weave in rings)

    def test_bounds(self):
        sheet = Sheet.drum(5)
        self.assertIs(is_ring(ring(sheet, 0) * 1250), False)
        self.assertIs(is_ring(Weave(sheet, FULL_THREAD)), False)
        for weave in (ring(sheet, 0) * 1251, Weave(sheet, GREAT_THREAD)):
            with self.assertRaises(TooGreat) as caught:
                is_ring(weave)
            self.assertEqual(caught.exception.most, 5000)


class Parting(unittest.TestCase):
    def test_by_hand(self):
        sheet = Sheet.drum(5)
        weave = loop(sheet, 1) * 3 + ring(sheet, 0) * 2 + ring(sheet, 4)
        self.assertEqual(parting(weave, 0, 1), 2)
        self.assertEqual(parting(weave, 0, 2), 5)
        self.assertEqual(parting(weave, 1, 2), 3)
        self.assertEqual(parting(weave, 1, 4), 4)
        self.assertEqual(parting(weave=weave, one=4, other=0), 6)
        self.assertEqual(parting(weave, 2, 3), 0)

    def test_the_empty_weave_and_multiples(self):
        for sheet in some_sheets():
            thread = loop(sheet, loopable(sheet)[0])
            near = sides(thread)[0]
            for one, other in itertools.product(range(sheet.nails), repeat=2):
                apart = (one in near) != (other in near)
                self.assertEqual(parting(Weave.empty(sheet), one, other), 0)
                self.assertEqual(parting(thread, one, other), int(apart))
                self.assertEqual(parting(thread * 7, one, other), 7 * apart)

    def test_many_weaves(self):
        for weave in some_weaves()[::3]:
            nears = [sides(thread)[0] for thread in threads(weave)]
            for one, other in itertools.product(range(weave.sheet.nails), repeat=2):
                many = sum((one in near) != (other in near) for near in nears)
                self.assertEqual(parting(weave, one, other), many)

    def test_parted_nails_stay_behind_flips(self):
        for at, sheet in enumerate(drums()):
            weave = loop(sheet, 1) * 2 + loop(sheet, 2) + ring(sheet, 3)
            before = [parting(weave, one, other) for one in range(sheet.nails) for other in range(sheet.nails)]
            for other_weave in carried(weave, 6, at):
                after = [parting(other_weave, one, other)
                         for one in range(sheet.nails) for other in range(sheet.nails)]
                self.assertEqual(after, before)

    def test_wrong_nails(self):
        weave = ring(Sheet.drum(5), 0)
        for wrong in NO_NAILS:
            for call in (lambda: parting(weave, wrong, 0), lambda: parting(weave, 0, wrong)):
                with self.assertRaises(InvalidNail) as caught:
                    call()
                self.assertIs(caught.exception.given, wrong)
        self.assertEqual(parting(ring(Sheet.drum(10), 9), 9, 8), 1)
        self.assertRaises(InvalidNail, parting, ring(Sheet.drum(10), 9), 9, 10)

    def test_the_first_error_is_raised(self):
        great = ring(Sheet.drum(5), 0) * 1251
        with self.assertRaises(InvalidNail) as caught:
            parting(great, "a", 5)
        self.assertEqual(caught.exception.given, "a")
        with self.assertRaises(InvalidNail) as caught:
            parting(great, 0, 5)
        self.assertEqual(caught.exception.given, 5)
        with self.assertRaises(TooGreat) as caught:
            parting(great, 0, 4)
        self.assertEqual(caught.exception.most, 5000)
        self.assertEqual(parting(ring(Sheet.drum(5), 0) * 1250, 0, 4), 1250)


class Rooms(unittest.TestCase):
    def test_by_hand(self):
        sheet = Sheet.drum(5)
        self.assertEqual(rooms(loop(sheet, 1) + loop(sheet, 2)), [[0, 2], [1], [3, 4]])
        self.assertEqual(rooms(weave=loop(sheet, 1)), [[0, 1], [2, 3, 4]])
        self.assertEqual(rooms(loop(sheet, 1) * 2 + ring(sheet, 3)), [[0, 1], [2, 4], [3]])
        self.assertEqual(rooms(loop(sheet, 2)), [[0, 3, 4], [1, 2]])

    def test_the_empty_weave_has_one_room(self):
        for sheet in some_sheets():
            self.assertEqual(rooms(Weave.empty(sheet)), [list(range(sheet.nails))])

    def test_all_rings(self):
        for sheet in some_sheets():
            weave = Weave.empty(sheet)
            for nail in range(sheet.nails):
                weave += ring(sheet, nail) * (nail + 1)
            self.assertEqual(rooms(weave), [[nail] for nail in range(sheet.nails)])

    def test_single_threads_and_multiples(self):
        for thread in some_threads()[::3]:
            self.assertEqual(rooms(thread), sorted(sides(thread)))
            self.assertEqual(rooms(thread * 2), rooms(thread))

    def test_nails_in_one_room_are_not_parted(self):
        for weave in some_weaves():
            found = rooms(weave)
            self.assertEqual(found, sorted(found))
            self.assertEqual(sorted(sum(found, [])), list(range(weave.sheet.nails)))
            for one, other in itertools.combinations(range(weave.sheet.nails), 2):
                together = any(one in room and other in room for room in found)
                parted = any((one in sides(thread)[0]) != (other in sides(thread)[0]) for thread, _ in split(weave))
                self.assertIs(together, not parted)

    def test_rooms_stay_behind_flips(self):
        for at, sheet in enumerate(drums() + [looped()]):
            lines = loopable(sheet)
            weave = loop(sheet, lines[0]) + loop(sheet, lines[-1]) + ring(sheet, 1)
            for other in carried(weave, 10, at):
                self.assertEqual(rooms(other), rooms(weave))

    def test_all_small_weaves(self):
        sheet = looped()
        for counts in itertools.product(range(3), repeat=9):
            try:
                weave = Weave(sheet, counts)
            except Misfit:
                continue
            for line in range(1, 10):
                begin, end = sheet.ends(line)
                together = any(begin in room and end in room for room in rooms(weave))
                self.assertTrue(together or weave.crossings(line) > 0)

    def test_returned_lists_may_be_changed(self):
        weave = loop(Sheet.drum(5), 1) + loop(Sheet.drum(5), 2)
        found = rooms(weave)
        found[0].clear()
        found.clear()
        self.assertEqual(rooms(weave), [[0, 2], [1], [3, 4]])

    def test_bounds(self):
        sheet = Sheet.drum(5)
        self.assertEqual(rooms(ring(sheet, 1) * 1250), [[0, 2, 3, 4], [1]])
        full = Weave(sheet, FULL_THREAD)
        self.assertEqual(rooms(full), sorted(sides(full)))
        for weave in (ring(sheet, 0) * 1251, Weave(sheet, GREAT_THREAD), loop(looped(), 2) * 10 ** 29):
            with self.assertRaises(TooGreat) as caught:
                rooms(weave)
            self.assertEqual(caught.exception.most, 5000)


class Carrying(unittest.TestCase):
    def test_threads_and_sides_are_carried_over_together(self):
        sheet = Sheet.drum(5)
        for weave in (braided(loop(sheet, 1), 2) + loop(sheet, 2), loop(sheet, 1) * 2 + loop(sheet, 2)):
            for flips in ((1,), (1, 5), (-3, 2, 7), (4, 8, 3, 2)):
                expected = sorted(
                    (thread.flipped(*flips).counts(), times, sides(thread)) for thread, times in split(weave)
                )
                found = [(thread.counts(), times, sides(thread)) for thread, times in split(weave.flipped(*flips))]
                self.assertEqual(found, expected)


if __name__ == "__main__":
    unittest.main()
