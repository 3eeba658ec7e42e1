import itertools
import unittest

from flipthreads.errors import InvalidLine, InvalidTurn, NotPlain
from flipthreads.loops import loop, ring
from flipthreads.moves import Move, half_turn
from flipthreads.sheets import Sheet
from samples import NO_LINES, drums, looped, many_sheets, signed

# The drums with five to ten nails: the lines whose half turn is told.
TOLD = {
    5: [1, 2, 3], 6: list(range(1, 13)), 7: [1, 2, 3, 4, 5], 8: [1, 2, 3, 4, 5, 6], 9: [1, 2, 3, 4, 5, 6, 7],
    10: [1, 2, 3, 4, 5, 6, 7, 8],
}


def same(one, other):
    return (one.sheet, one.flips(), one.renaming()) == (other.sheet, other.flips(), other.renaming())


def around(sheet, line):
    """How many lines end at both ends of a line, and how many at one of them or both."""
    u, v = sheet.ends(line)
    ends = [sheet.ends(x) for x in range(1, sheet.lines + 1)]
    return tuple(sum(bool(nails & set(pair)) for pair in ends) for nails in ({u}, {v}, {u, v}))


class Turns(unittest.TestCase):
    def test_by_hand(self):
        move = half_turn(Sheet.drum(5), 1)
        self.assertIs(type(move), Move)
        self.assertEqual(move.flips(), [4, 8, 3, 2])
        self.assertEqual(move.renaming(), [-1, 5, -7, -3, 4, 6, 8, 2, 9])
        self.assertEqual(move.goals(), [1, 0, 2, 3, 4])
        self.assertTrue(same(half_turn(line=1, sheet=Sheet.drum(5)), move))

    def test_all_lines_of_the_drums(self):
        for sheet in drums():
            found = []
            for line in range(1, sheet.lines + 1):
                try:
                    half_turn(sheet, line)
                    found.append(line)
                except InvalidTurn as error:
                    self.assertEqual(error.line, line)
            self.assertEqual(found, TOLD[sheet.nails])

    def test_which_turns_are_told(self):
        told = {True: 0, False: 0}
        for sheet in [sheet for sheet in many_sheets() if sheet.is_plain]:
            for x in signed(sheet):
                allowed = around(sheet, x) == (4, 4, 7)
                told[allowed] += 1
                if allowed:
                    self.assertEqual(half_turn(sheet, x).sheet, sheet)
                else:
                    with self.assertRaises(InvalidTurn) as caught:
                        half_turn(sheet, x)
                    self.assertEqual(caught.exception.line, x)
        self.assertGreater(min(told.values()), 100)

    def test_flips_and_names(self):
        for sheet in [sheet for sheet in many_sheets()[::3] if sheet.is_plain]:
            for line in [x for x in range(1, sheet.lines + 1) if around(sheet, x) == (4, 4, 7)]:
                move = half_turn(sheet, line)
                x, a1, a2, a3 = sheet.turns(line)
                y, b1, b2, b3 = sheet.turns(-line)
                self.assertEqual((x, y), (line, -line))
                self.assertEqual(move.flips(), [abs(a1), abs(b1), abs(a2), abs(b2)])
                names = {a1: a2, a2: a3, a3: b1, b1: b2, b2: b3, b3: a1, x: -x}
                for k in range(1, sheet.lines + 1):
                    self.assertEqual(move.renaming()[k - 1], names.get(k, -names.get(-k, -k)))

    def test_both_directions_give_the_same_move(self):
        for sheet in drums():
            for line in TOLD[sheet.nails]:
                self.assertTrue(same(half_turn(sheet, line), half_turn(sheet, -line)))

    def test_nails_are_exchanged(self):
        for sheet in drums():
            for line in TOLD[sheet.nails]:
                move = half_turn(sheet, line)
                u, v = sheet.ends(line)
                expected = list(range(sheet.nails))
                expected[u], expected[v] = v, u
                self.assertEqual(move.goals(), expected)
                self.assertEqual(move.act(loop(sheet, line)), loop(sheet, line))
                self.assertEqual(move.act(ring(sheet, u)), ring(sheet, v))
                self.assertIs(move.then(move).is_idle(), False)
                self.assertEqual(move.then(move).goals(), list(range(sheet.nails)))

    def test_threads_far_away_stay(self):
        sheet = Sheet.drum(8)
        move = half_turn(sheet, 1)
        for line in range(1, 19):
            stays = line == 1 or not set(sheet.ends(line)) & {0, 1}
            self.assertIs(move.act(loop(sheet, line)) == loop(sheet, line), stays)

    def test_to_the_left(self):
        # The upper hub is on the left of line 1. Nail 1 is turned past it to the place of nail 0, and takes the loop
        # around line 2 along: so this loop gets to cross line 5, which leads to the upper hub, and no longer line 8.
        sheet = Sheet.drum(5)
        move = half_turn(sheet, 1)
        self.assertEqual(loop(sheet, 2).counts(), [1, 0, 1, 0, 1, 1, 0, 1, 1])
        self.assertEqual(move.act(loop(sheet, 2)).counts(), [1, 1, 2, 1, 2, 1, 1, 0, 1])
        self.assertEqual(move.back().act(loop(sheet, 2)).counts(), [1, 1, 2, 1, 0, 1, 1, 2, 1])

    def test_neighbouring_turns(self):
        for sheet in drums():
            told = [half_turn(sheet, line) for line in range(1, sheet.nails - 1)]
            for at, one in enumerate(told):
                other = told[(at + 1) % len(told)]
                left, right = one.then(other).then(one), other.then(one).then(other)
                self.assertIs(left.does_same(right), True)
                self.assertIsNone(left.parted_by(right))
                self.assertIs(one.then(other).does_same(other.then(one)), False)
                self.assertIs(one.does_same(other), False)

    def test_far_turns_can_be_exchanged(self):
        for sheet in drums()[1:]:
            for line, other in itertools.combinations(range(1, sheet.nails - 1), 2):
                if not set(sheet.ends(line)) & set(sheet.ends(other)):
                    one, two = half_turn(sheet, line), half_turn(sheet, other)
                    self.assertIs(one.then(two).does_same(two.then(one)), True)

    def test_a_turn_and_its_back(self):
        for sheet in drums():
            move = half_turn(sheet, 2)
            self.assertIs(move.does_same(move.back()), False)
            self.assertIs(move.then(move.back()).is_idle(), True)

    def test_sheets_that_are_not_plain(self):
        for line in [1, 8, 0, None, "a"]:
            self.assertRaises(NotPlain, half_turn, looped(), line)

    def test_wrong_lines(self):
        for wrong in NO_LINES:
            with self.assertRaises(InvalidLine) as caught:
                half_turn(Sheet.drum(5), wrong)
            self.assertIs(caught.exception.given, wrong)

    def test_refused_turns_tell_the_line_as_it_was_given(self):
        for line in (4, -4, 9, -9):
            with self.assertRaises(InvalidTurn) as caught:
                half_turn(Sheet.drum(5), line)
            self.assertEqual(caught.exception.line, line)


if __name__ == "__main__":
    unittest.main()
