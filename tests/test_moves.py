import itertools
import unittest

from flipthreads.errors import InvalidLine, InvalidRenaming, NotPlain, OtherSheet, Unflippable
from flipthreads.loops import loop, ring
from flipthreads.moves import Move, half_turn, renamings
from flipthreads.sheets import Sheet
from flipthreads.splits import split
from flipthreads.weaves import Weave
from samples import (
    NO_LINES, braided, drums, looped, many_sheets, renamings as some_renamings, signed, wander, wrong_renamings,
)

IDLE = [1, 2, 3, 4, 5, 6, 7, 8, 9]


def turns(sheet):
    """The half turns of the lines of the rim, if they are told."""
    return [half_turn(sheet, line) for line in range(1, sheet.nails - 1)]


def plain_moves():
    """Moves of several sheets: half turns, renamings alone, and moves that flips and renamings lead around."""
    made = [move for sheet in (Sheet.drum(5), Sheet.drum(7)) for move in turns(sheet)]
    made += [Move(sheet, [], row) for sheet in drums()[:4] for row in renamings(sheet, sheet)[::3]]
    for at, drum in enumerate(drums()):
        sheets = [sheet for sheet in wander(drum, 12, at) if sheet.is_plain]
        made += [half_turn(sheet, line) for sheet in sheets[::4] for line in range(1, sheet.lines + 1)
                 if told(sheet, line)][:3]
    return made


def told(sheet, line):
    """Whether the half turn of a line is told, by the words of [23]."""
    u, v = sheet.ends(line)
    ends = [(x, sheet.ends(x)) for x in range(1, sheet.lines + 1)]
    at_u, at_v = [x for x, pair in ends if u in pair], [x for x, pair in ends if v in pair]
    return len(at_u) == 4 and len(at_v) == 4 and len(set(at_u + at_v)) == 7


def same(one, other):
    return (one.sheet, one.flips(), one.renaming()) == (other.sheet, other.flips(), other.renaming())


def some_weaves_on(sheet):
    made = [loop(sheet, 1), loop(sheet, 2) * 3 + ring(sheet, 0), loop(sheet, 1) + loop(sheet, 4), Weave.empty(sheet)]
    return made + [made[2] * 10 ** 29]


class Renamings(unittest.TestCase):
    def test_drums_onto_themselves(self):
        for sheet in drums():
            found = renamings(sheet, sheet)
            # Turns of the rim, with and without exchanged hubs; the drum with 6 nails has more.
            self.assertEqual(len(found), 24 if sheet.nails == 6 else 2 * (sheet.nails - 2))
            self.assertIn(list(range(1, sheet.lines + 1)), found)
            for row in found:
                self.assertEqual(sheet.renamed(row).triangles(), sheet.triangles())

    def test_by_hand(self):
        found = renamings(one=Sheet.drum(5), other=Sheet.drum(5))
        self.assertEqual(found, [
            [-3, -2, -1, 7, 9, 8, 4, 6, 5], [-2, -1, -3, 9, 8, 7, 6, 5, 4], [-1, -3, -2, 8, 7, 9, 5, 4, 6],
            [1, 2, 3, 4, 5, 6, 7, 8, 9], [2, 3, 1, 5, 6, 4, 8, 9, 7], [3, 1, 2, 6, 4, 5, 9, 7, 8],
        ])

    def test_sheets_and_renamed_ones(self):
        for sheet in many_sheets()[::7] + [looped()]:
            for row in some_renamings(sheet):
                other = sheet.renamed(row)
                found = renamings(sheet, other)
                self.assertIn(row, found)
                self.assertEqual(found, sorted(found))
                self.assertEqual(len(found), len({tuple(item) for item in found}))
                self.assertEqual(len(found), len(renamings(sheet, sheet)))
                for item in found:
                    self.assertEqual(sheet.renamed(item).triangles(), other.triangles())

    def test_the_numbers_of_the_nails_do_not_matter(self):
        sheet = Sheet.drum(6)
        other = Sheet(sheet.triangles(), order=[5, 4, 3, 2, 1, 0])
        self.assertNotEqual(sheet, other)
        self.assertEqual(renamings(sheet, other), renamings(sheet, sheet))

    def test_unlike_sheets(self):
        for one, other in itertools.permutations(drums(), 2):
            self.assertEqual(renamings(one, other), [])
        self.assertEqual(renamings(Sheet.drum(7), Sheet.drum(7).flipped(6)), [])
        self.assertEqual(renamings(Sheet.drum(5), looped()), [])
        self.assertEqual(renamings(looped(), Sheet.drum(5)), [])

    def test_all_renamings_are_found(self):
        # Each renaming is told by the name of line 1: the others follow.
        for sheet in many_sheets()[::20] + [looped()]:
            for other in (sheet, sheet.flipped(next(x for x in signed(sheet) if sheet.can_flip(x)))):
                degrees = [sorted(len(at.turns(x)) for x in signed(at)) for at in (sheet, other)]
                found = renamings(sheet, other)
                if degrees[0] != degrees[1]:
                    self.assertEqual(found, [])
                self.assertLessEqual(len(found), 2 * sheet.lines)
                self.assertEqual(len({row[0] for row in found}), len(found))

    def test_returned_lists_may_be_changed(self):
        sheet = Sheet.drum(5)
        found = renamings(sheet, sheet)
        found[0].clear()
        found.clear()
        self.assertEqual(len(renamings(sheet, sheet)), 6)
        self.assertIs(type(renamings(sheet, sheet)[0]), list)


class Making(unittest.TestCase):
    def test_by_hand(self):
        sheet = Sheet.drum(5)
        move = Move(sheet, [4, 8, 3, 2], [-1, 5, -7, -3, 4, 6, 8, 2, 9])
        self.assertIs(move.sheet, sheet)
        self.assertEqual(move.flips(), [4, 8, 3, 2])
        self.assertEqual(move.renaming(), [-1, 5, -7, -3, 4, 6, 8, 2, 9])
        self.assertEqual(repr(move), "Move(4 flips)")
        self.assertTrue(same(Move(renaming=tuple(move.renaming()), flips=(4, 8, 3, 2), sheet=sheet), move))

    def test_idle_moves(self):
        for sheet in drums():
            move = Move.idle(sheet)
            self.assertEqual((move.flips(), move.renaming()), ([], list(range(1, sheet.lines + 1))))
            self.assertEqual(move.goals(), list(range(sheet.nails)))
            self.assertIs(move.is_idle(), True)
            self.assertEqual(repr(move), "Move(0 flips)")
        self.assertEqual(repr(Move(Sheet.drum(5), [1, -1], IDLE)), "Move(2 flips)")
        self.assertEqual(repr(Move(sheet=Sheet.drum(5).flipped(1).flipped(-1), flips=[], renaming=IDLE)),
                         "Move(0 flips)")

    def test_sheets_that_are_not_plain(self):
        for call in (
            lambda: Move(looped(), [], IDLE), lambda: Move.idle(looped()), lambda: Move(looped(), [0], None),
            lambda: Move(looped(), ["a"], []),
        ):
            self.assertRaises(NotPlain, call)

    def test_a_plain_sheet_whose_flips_lead_over_others(self):
        sheet = Sheet.drum(5)
        self.assertIs(sheet.flipped(4, 1, 8).is_plain, False)
        move = Move(sheet, [4, 1, 8, -8, -1, -4], IDLE)
        self.assertIs(move.is_idle(), True)

    def test_wrong_flips(self):
        for wrong in NO_LINES:
            for flips in ([wrong], [1, wrong], (1, 2, wrong, 0)):
                with self.assertRaises(InvalidLine) as caught:
                    Move(Sheet.drum(5), flips, None)
                self.assertEqual(caught.exception.given, wrong)
                self.assertIs(type(caught.exception.given), type(wrong))

    def test_refused_flips(self):
        sheet, found = Sheet.drum(5), 0
        for flips in itertools.product((4, 1, 8, 3, -7), repeat=4):
            try:
                sheet.flipped(*flips)
            except Unflippable as error:
                found += 1
                with self.assertRaises(Unflippable) as caught:
                    Move(sheet, flips, "wrong")
                self.assertEqual(caught.exception.at, error.at)
                self.assertRaises(Unflippable, Move, sheet, list(flips) + ["wrong"], IDLE)
        self.assertGreater(found, 3)

    def test_wrong_renamings(self):
        sheet = Sheet.drum(5)
        for wrong in wrong_renamings() + [[2, 1, 3, 4, 5, 6, 7, 8, 9], [-x for x in IDLE], IDLE[::-1]]:
            self.assertRaises(InvalidRenaming, Move, sheet, [], wrong)
            self.assertRaises(InvalidRenaming, Move, sheet, [4, 8, 3, 2], wrong)
        self.assertRaises(InvalidRenaming, Move, sheet, [1], IDLE)
        self.assertRaises(InvalidRenaming, Move, sheet, [1, 1], IDLE)
        self.assertIs(Move(sheet, [1, 1], [-1] + IDLE[1:]).is_idle(), True)

    def test_every_renaming_that_leads_back_makes_a_move(self):
        for flips in ([], [1, -1], [4, 8, 3, 2], [1, 1], [2, 5]):
            sheet = Sheet.drum(5)
            behind = sheet.flipped(*flips)
            for row in renamings(behind, sheet):
                self.assertEqual(Move(sheet, flips, row).renaming(), row)

    def test_lists_may_be_changed(self):
        sheet, flips, renaming = Sheet.drum(5), [4, 8, 3, 2], [-1, 5, -7, -3, 4, 6, 8, 2, 9]
        move = Move(sheet, flips, renaming)
        flips.clear()
        renaming[0] = 1
        move.flips().clear()
        move.renaming().clear()
        move.goals().clear()
        self.assertTrue(same(move, half_turn(sheet, 1)))
        self.assertEqual(move.goals(), [1, 0, 2, 3, 4])
        with self.assertRaises(AttributeError):
            move.sheet = sheet


class Acting(unittest.TestCase):
    def test_by_hand(self):
        sheet = Sheet.drum(5)
        move = Move(sheet, [], [2, 3, 1, 5, 6, 4, 8, 9, 7])
        self.assertEqual(move.act(loop(sheet, 1)), loop(sheet, 2))
        self.assertEqual(move.act(weave=ring(sheet, 2)), ring(sheet, 0))
        self.assertEqual(move.goals(), [1, 2, 0, 3, 4])

    def test_flips_then_names(self):
        for move in plain_moves():
            for weave in some_weaves_on(move.sheet):
                behind = weave.flipped(*move.flips())
                counts = [0] * move.sheet.lines
                for line, name in enumerate(move.renaming(), start=1):
                    counts[abs(name) - 1] = behind.crossings(line)
                found = move.act(weave)
                self.assertEqual((found.counts(), found.sheet), (counts, move.sheet))

    def test_threads_and_sums_are_moved_together(self):
        for move in plain_moves()[::3]:
            for weave in some_weaves_on(move.sheet)[:4]:
                moved = sorted((move.act(thread).counts(), times) for thread, times in split(weave))
                self.assertEqual([(thread.counts(), times) for thread, times in split(move.act(weave))], moved)
                self.assertEqual(move.act(weave * 5), move.act(weave) * 5)

    def test_rings_go_with_their_nails(self):
        for move in plain_moves():
            goals = move.goals()
            self.assertEqual(sorted(goals), list(range(move.sheet.nails)))
            for nail in range(move.sheet.nails):
                self.assertEqual(move.act(ring(move.sheet, nail)), ring(move.sheet, goals[nail]))

    def test_very_great_counts(self):
        sheet = Sheet.drum(5)
        move = half_turn(sheet, 1).then(half_turn(sheet, 2).back())
        weave, times = loop(sheet, 2) * 10 ** 29, 0
        while weave.total < 10 ** 80:
            weave = move.act(weave)
            times += 1
        for _ in range(times):
            weave = move.back().act(weave)
        self.assertEqual(weave, loop(sheet, 2) * 10 ** 29)

    def test_other_sheets(self):
        sheet = Sheet.drum(5)
        again = Sheet(sheet.triangles(), order=[1, 0, 2, 3, 4])
        move = half_turn(sheet, 1)
        for other in (Sheet.drum(6), sheet.flipped(1), again):
            self.assertRaises(OtherSheet, move.act, loop(other, 1))
            self.assertRaises(OtherSheet, move.act, Weave.empty(other))
        for other in (Move.idle(Sheet.drum(6)), Move.idle(again), Move.idle(sheet.renamed(IDLE[::-1]))):
            for call in (move.then, move.does_same, move.parted_by):
                self.assertRaises(OtherSheet, call, other)
        self.assertEqual(move.act(loop(Sheet.drum(5), 1)), loop(sheet, 1))
        self.assertIs(move.does_same(half_turn(Sheet.drum(5), 1)), True)


class Products(unittest.TestCase):
    def test_back_by_hand(self):
        move = half_turn(Sheet.drum(5), 1)
        self.assertEqual(move.back().flips(), [-5, -7, -2, -3])
        self.assertEqual(move.back().renaming(), [-1, 8, -4, 5, 2, 6, -3, 7, 9])
        self.assertEqual(move.back().goals(), [1, 0, 2, 3, 4])

    def test_back_keeps_the_signs_of_the_flips(self):
        # Line 3 is called -7, 4 is called -3, and 2 is called 5.
        move = Move(Sheet.drum(5), [4, 8, 3, 2, -2, 2, -3, 3], half_turn(Sheet.drum(5), 1).renaming())
        self.assertEqual(move.back().flips(), [-7, 7, -5, 5, -5, -7, -2, -3])

    def test_back(self):
        for move in plain_moves():
            back = move.back()
            names = [abs(name) for name in move.renaming()]
            expected = [(-1 if flip > 0 else 1) * names[abs(flip) - 1] for flip in reversed(move.flips())]
            self.assertEqual(back.flips(), expected)
            for line, name in enumerate(move.renaming(), start=1):
                self.assertEqual(back.renaming()[abs(name) - 1], line if name > 0 else -line)
            self.assertEqual(back.sheet, move.sheet)
            self.assertTrue(same(back.back(), move))
            self.assertEqual([back.goals()[goal] for goal in move.goals()], list(range(move.sheet.nails)))
            self.assertIs(move.then(back).is_idle(), True)
            self.assertIs(back.then(move).is_idle(), True)
            for weave in some_weaves_on(move.sheet):
                self.assertEqual(back.act(move.act(weave)), weave)

    def test_then_by_hand(self):
        sheet = Sheet.drum(5)
        one, other = half_turn(sheet, 1), half_turn(sheet, 2)
        both = one.then(other)
        self.assertEqual(other.flips(), [5, 9, 1, 3])
        # The first renaming calls 2 so: 5; and 9: 9; 1: -1; 4: -3.
        self.assertEqual(both.flips(), [4, 8, 3, 2, 2, 9, 1, 4])
        self.assertEqual(both.goals(), [2, 0, 1, 3, 4])
        self.assertEqual(repr(both), "Move(8 flips)")

    def test_then(self):
        moves = plain_moves()
        pairs = [(one, other) for one in moves[::2] for other in moves[::3] if one.sheet == other.sheet]
        self.assertGreater(len(pairs), 30)
        for one, other in pairs:
            both = one.then(other=other)
            calls = {abs(name): line for line, name in enumerate(one.renaming(), start=1)}
            behind = [(1 if flip > 0 else -1) * calls[abs(flip)] for flip in other.flips()]
            self.assertEqual(both.flips(), one.flips() + behind)
            expected = [(1 if name > 0 else -1) * other.renaming()[abs(name) - 1] for name in one.renaming()]
            self.assertEqual(both.renaming(), expected)
            self.assertEqual(both.goals(), [other.goals()[goal] for goal in one.goals()])
            for weave in some_weaves_on(one.sheet):
                self.assertEqual(both.act(weave), other.act(one.act(weave)))

    def test_moves_are_not_changed_by_others(self):
        sheet = Sheet.drum(5)
        one, other = half_turn(sheet, 1), half_turn(sheet, 2)
        one.then(other)
        one.back()
        one.act(loop(sheet, 1))
        self.assertTrue(same(one, half_turn(sheet, 1)))
        self.assertTrue(same(other, half_turn(sheet, 2)))


class Equality(unittest.TestCase):
    def check_pair(self, one, other):
        parted = [line for line in range(1, one.sheet.lines + 1)
                  if one.act(loop(one.sheet, line)) != other.act(loop(one.sheet, line))]
        self.assertEqual(one.parted_by(other), parted[0] if parted else None)
        self.assertIs(one.does_same(other=other), not parted)
        return not parted

    def test_pairs(self):
        for sheet in (Sheet.drum(5), Sheet.drum(6)):
            moves = turns(sheet)[:3] + [Move(sheet, [], row) for row in renamings(sheet, sheet)[::5]]
            moves += [one.then(other) for one in moves[:2] for other in moves[:3]]
            same = [self.check_pair(one, other) for one in moves for other in moves]
            self.assertIn(True, same)
            self.assertIn(False, same)

    def test_by_hand(self):
        sheet = Sheet.drum(5)
        move = half_turn(sheet, 1)
        self.assertEqual(move.parted_by(Move.idle(sheet)), 2)
        self.assertEqual(move.parted_by(other=half_turn(sheet, 2)), 1)
        self.assertIsNone(move.parted_by(half_turn(sheet, -1)))
        self.assertIs(move.is_idle(), False)
        self.assertIs(Move(sheet, [], [2, 3, 1, 5, 6, 4, 8, 9, 7]).is_idle(), False)

    def test_equal_moves_do_the_same_to_other_threads(self):
        sheet = Sheet.drum(5)
        one, other = half_turn(sheet, 1), half_turn(sheet, 2)
        left, right = one.then(other).then(one), other.then(one).then(other)
        self.assertIs(left.does_same(right), True)
        self.assertNotEqual(left.flips(), right.flips())
        for times in range(5):
            weave = braided(loop(sheet, 1), times) + loop(sheet, 2)
            self.assertEqual(left.act(weave), right.act(weave))

    def test_detours_do_nothing(self):
        for sheet in drums()[:3]:
            move = half_turn(sheet, 1)
            for x in [x for x in signed(sheet) if sheet.can_flip(x)][::4]:
                other = Move(sheet, [x, -x] + move.flips(), move.renaming())
                self.assertIs(move.does_same(other), True)
                self.assertIs(Move(sheet, [x, -x], list(range(1, sheet.lines + 1))).is_idle(), True)

    def test_a_renaming_that_moves_only_nails(self):
        sheet = Sheet.drum(6)
        for row in renamings(sheet, sheet):
            move = Move(sheet, [], row)
            self.assertIs(move.is_idle(), move.goals() == list(range(6)))


if __name__ == "__main__":
    unittest.main()
