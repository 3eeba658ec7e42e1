import unittest

from flipthreads.errors import InvalidLine, InvalidRenaming, ThreadError, Unflippable
from flipthreads.sheets import Sheet
from samples import NO_LINES, drums, looped, many_sheets, renamings, signed, wrong_renamings


def plain_flip(sheet, flip):
    """The triangles behind a flip as [6] tells them, each begun anywhere."""
    x = abs(flip)
    triangles = {frozenset(t): t for t in sheet.triangles()}
    _, p, q = next(t[k:] + t[:k] for t in triangles.values() for k in range(3) if t[k] == x)
    _, r, s = next(t[k:] + t[:k] for t in triangles.values() for k in range(3) if t[k] == -x)
    del triangles[frozenset((x, p, q))], triangles[frozenset((-x, r, s))]
    added = [(x, q, r), (-x, s, p)] if flip > 0 else [(x, s, p), (-x, q, r)]
    return list(triangles.values()) + added


def least_begun(triangles):
    turned = [min(((t[k:] + t[:k]) for k in range(3)), key=lambda turn: abs(turn[0])) for t in triangles]
    return sorted(turned)


class Sides(unittest.TestCase):
    def test_sides_of_a_drum(self):
        self.assertEqual(Sheet.drum(5).sides(1), (7, -8, 5, -4))
        self.assertEqual(Sheet.drum(5).sides(4), (1, 5, -6, 3))

    def test_both_directions_give_equal_sides(self):
        for sheet in many_sheets():
            for x in range(1, sheet.lines + 1):
                r, s, p, q = sheet.sides(x)
                self.assertEqual(sheet.sides(-x), (r, s, p, q))
                self.assertEqual(sheet.triangle(x), (x, p, q))
                self.assertEqual(sheet.triangle(-x), (-x, r, s))


class Flips(unittest.TestCase):
    def test_flips_of_a_drum(self):
        sheet = Sheet.drum(5)
        self.assertEqual(sheet.flipped(1).triangle(1), (1, -4, 7))
        self.assertEqual(sheet.flipped(1).triangle(-1), (-1, -8, 5))
        self.assertEqual(sheet.flipped(-1).triangle(1), (1, -8, 5))
        self.assertEqual(sheet.flipped(-1).triangle(-1), (-1, -4, 7))
        self.assertEqual(sheet.flipped(1).ends(1), (4, 3))
        self.assertEqual(sheet.flipped(-1).ends(1), (3, 4))

    def test_triangles_behind_a_flip(self):
        for sheet in many_sheets():
            for x in signed(sheet):
                if sheet.can_flip(x):
                    self.assertEqual(sheet.flipped(x).triangles(), least_begun(plain_flip(sheet, x)))

    def test_other_lines_and_the_numbers_of_the_nails_stay(self):
        for sheet in many_sheets():
            for x in signed(sheet):
                if sheet.can_flip(x):
                    behind = sheet.flipped(x)
                    self.assertEqual((behind.nails, behind.lines), (sheet.nails, sheet.lines))
                    for y in signed(sheet):
                        if abs(y) != abs(x):
                            self.assertEqual(behind.ends(y), sheet.ends(y))
                    r, _, p, _ = sheet.sides(x)
                    corners = (sheet.ends(r)[1], sheet.ends(p)[1])
                    self.assertEqual(behind.ends(x), corners)

    def test_nails_with_other_numbers_keep_them(self):
        sheet = Sheet(Sheet.drum(5).triangles(), order=[3, 0, 4, 1, 2])
        behind = sheet.flipped(1)
        self.assertEqual(behind.ends(1), (2, 1))
        self.assertEqual(behind.order(), [2, 1, 0, 4, 3])

    def test_the_order_is_that_of_meeting_again(self):
        self.assertEqual(Sheet.drum(5).flipped(1).order(), [4, 3, 1, 2, 0])
        self.assertEqual(Sheet.drum(5).flipped(4, 1, 8).order(), [4, 2, 1, 0, 3])

    def test_a_flip_and_its_negative_take_one_another_back(self):
        for sheet in many_sheets() + [looped()]:
            for x in signed(sheet):
                if sheet.can_flip(x):
                    self.assertEqual(sheet.flipped(x, -x), sheet)
                    self.assertEqual(sheet.flipped(-x, x), sheet)
                    self.assertEqual(sheet.flipped(x).flipped(-x), sheet)
                    self.assertNotEqual(sheet.flipped(x), sheet.flipped(-x))

    def test_the_same_flip_twice_turns_the_line_round(self):
        sheet = Sheet.drum(5)
        self.assertNotEqual(sheet.flipped(1, 1), sheet)
        self.assertEqual(sheet.flipped(1, 1).ends(1), (1, 0))
        self.assertEqual(sheet.flipped(1, 1, 1, 1), sheet)

    def test_many_flips_are_done_one_after_the_other(self):
        for sheet in drums() + [looped()]:
            behind, flips = sheet, []
            for step in range(60):
                choices = [x for x in signed(sheet) if behind.can_flip(x)]
                flips.append(choices[step * 7 % len(choices)])
                behind = behind.flipped(flips[-1])
            self.assertEqual(sheet.flipped(*flips), behind)
            self.assertEqual(behind.flipped(*[-x for x in reversed(flips)]), sheet)

    def test_the_order_of_flips_matters(self):
        self.assertNotEqual(Sheet.drum(5).flipped(1, 5), Sheet.drum(5).flipped(5, 1))

    def test_no_flips(self):
        for sheet in drums() + [looped()]:
            self.assertEqual(sheet.flipped(), sheet)

    def test_the_sheet_itself_stays(self):
        sheet = Sheet.drum(6)
        before = (sheet.triangles(), sheet.order(), [sheet.ends(x) for x in signed(sheet)])
        sheet.flipped(1, 5, -2)
        self.assertEqual((sheet.triangles(), sheet.order(), [sheet.ends(x) for x in signed(sheet)]), before)
        self.assertEqual(sheet, Sheet.drum(6))


class RefusedFlips(unittest.TestCase):
    def assert_unflippable(self, at, sheet, *flips):
        with self.assertRaises(Unflippable) as caught:
            sheet.flipped(*flips)
        self.assertEqual(caught.exception.at, at)

    def test_refused_if_a_triangle_would_have_like_lines(self):
        refused = 0
        for sheet in many_sheets() + [looped()]:
            for x in signed(sheet):
                r, s, p, q = sheet.sides(x)
                allowed = abs(q) != abs(r) and abs(s) != abs(p)
                self.assertIs(sheet.can_flip(x), allowed)
                if not allowed:
                    refused += 1
                    self.assert_unflippable(0, sheet, x)
                    self.assert_unflippable(0, sheet, -x)
        self.assertGreater(refused, 20)

    def test_refused_in_both_directions_at_both_ends(self):
        sheet = looped()
        self.assertEqual([x for x in range(1, 10) if not sheet.can_flip(x)], [3, 5, 6, 7])
        self.assertEqual([x for x in range(1, 10) if not sheet.can_flip(-x)], [3, 5, 6, 7])
        like = []
        for x in (3, 5, 6, 7):
            r, s, p, q = sheet.sides(x)
            like.append((abs(q) == abs(r), abs(s) == abs(p)))
        self.assertIn((True, False), like)
        self.assertIn((False, True), like)

    def test_a_line_at_one_nail_can_be_flipped(self):
        self.assertTrue(looped().can_flip(8))
        self.assertTrue(looped().flipped(8).is_plain)

    def test_the_index_of_the_refused_flip(self):
        sheet = Sheet.drum(5)
        self.assertTrue(sheet.can_flip(5))
        self.assert_unflippable(1, sheet, 4, 5)
        self.assert_unflippable(1, sheet, 4, -5)
        self.assert_unflippable(3, sheet, 1, -1, 4, 6, "wrong")
        self.assert_unflippable(0, looped(), 3, 0)

    def test_wrong_flips(self):
        for flip in NO_LINES:
            for flips in ([flip], [1, flip], [1, -1, flip, 0], [flip, 99], [4, flip, 5]):
                with self.subTest(flips=flips):
                    with self.assertRaises(InvalidLine) as caught:
                        Sheet.drum(5).flipped(*flips)
                    self.assertIs(caught.exception.given, flip)

    def test_a_list_of_flips_is_no_flip(self):
        self.assertRaises(InvalidLine, Sheet.drum(5).flipped, [1, 2])
        self.assertRaises(InvalidLine, Sheet.drum(5).flipped, ())

    def test_errors_come_flip_by_flip(self):
        self.assertRaises(InvalidLine, Sheet.drum(5).flipped, 0, 4, 5)
        self.assertRaises(InvalidLine, Sheet.drum(5).flipped, 4, 0, 5)
        self.assertRaises(Unflippable, Sheet.drum(5).flipped, 4, 5, 0)

    def test_the_sheet_stays_where_a_flip_is_refused(self):
        sheet = Sheet.drum(5)
        for flips in ([1, 0], [4, 5], [1, 2, None]):
            self.assertRaises(ThreadError, sheet.flipped, *flips)
        self.assertEqual(sheet, Sheet.drum(5))


class Renamings(unittest.TestCase):
    def test_lines_are_called_as_the_items_say(self):
        for sheet in drums() + [looped()]:
            for renaming in renamings(sheet):
                behind = sheet.renamed(renaming)
                for x in range(1, sheet.lines + 1):
                    name = renaming[x - 1]
                    for old, new in ((x, name), (-x, -name)):
                        triangle = [renaming[abs(y) - 1] * (1 if y > 0 else -1) for y in sheet.triangle(old)]
                        self.assertEqual(behind.triangle(new), tuple(triangle))
                        self.assertEqual(behind.ends(new), sheet.ends(old))

    def test_the_nails_keep_their_numbers(self):
        sheet = Sheet.drum(5).renamed([2, 3, 1, 5, 6, 4, 8, 9, 7])
        self.assertEqual(sheet.ends(2), (0, 1))
        self.assertEqual(sheet.ends(1), (2, 0))
        self.assertEqual(sheet.order(), [2, 0, 1, 3, 4])
        turned = Sheet.drum(5).renamed([-1, 2, 3, 4, 5, 6, 7, 8, 9])
        self.assertEqual(turned.ends(1), (1, 0))
        self.assertEqual(turned.order(), [1, 0, 2, 3, 4])

    def test_names_that_stay(self):
        for sheet in drums() + [looped()]:
            self.assertEqual(sheet.renamed(list(range(1, sheet.lines + 1))), sheet)
            self.assertEqual(sheet.renamed(renaming=tuple(range(1, sheet.lines + 1))), sheet)

    def test_a_renaming_can_be_taken_back(self):
        for sheet in drums() + [looped()]:
            for renaming in renamings(sheet):
                back = [0] * sheet.lines
                for at, name in enumerate(renaming):
                    back[abs(name) - 1] = at + 1 if name > 0 else -at - 1
                self.assertEqual(sheet.renamed(renaming).renamed(back), sheet)

    def test_wrong_renamings(self):
        for renaming in wrong_renamings():
            with self.subTest(renaming=renaming):
                with self.assertRaises(InvalidRenaming) as caught:
                    Sheet.drum(5).renamed(renaming)
                self.assertEqual(caught.exception.code, "InvalidRenaming")

    def test_a_renaming_for_another_number_of_lines(self):
        self.assertRaises(InvalidRenaming, Sheet.drum(10).renamed, list(range(1, 10)))
        self.assertRaises(InvalidRenaming, Sheet.drum(5).renamed, list(range(1, 25)))

    def test_the_argument_and_the_sheet_stay(self):
        sheet, renaming = Sheet.drum(5), [2, 3, 1, -5, 6, 4, 8, 9, 7]
        behind = sheet.renamed(renaming)
        self.assertEqual(renaming, [2, 3, 1, -5, 6, 4, 8, 9, 7])
        again = sheet.renamed(renaming)
        renaming.clear()
        self.assertEqual(behind, again)
        self.assertEqual(sheet, Sheet.drum(5))


if __name__ == "__main__":
    unittest.main()
