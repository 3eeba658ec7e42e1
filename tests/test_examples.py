"""The examples at the end of the document, as far as the package has their files."""

import unittest

from flipthreads.sheets import Sheet


class Examples(unittest.TestCase):
    def test_triangles_of_the_drum(self):
        sheet = Sheet.drum(5)
        expected = [(-3, 9, -7), (-2, 8, -9), (-1, 7, -8), (1, 5, -4), (2, 6, -5), (3, 4, -6)]
        self.assertEqual(sheet.triangles(), expected)

    def test_turns_ends_and_sides(self):
        sheet = Sheet.drum(5)
        found = [sheet.turns(1), sheet.ends(-4), sheet.sides(1)]
        self.assertEqual(found, [[1, 4, -3, 7], (3, 0), (7, -8, 5, -4)])

    def test_a_flip(self):
        sheet = Sheet.drum(5)
        self.assertEqual(sheet.flipped(1).triangle(1), (1, -4, 7))

    def test_the_repr_of_a_sheet(self):
        self.assertEqual(repr(Sheet.drum(5)), "Sheet(5 nails, 9 lines)")


if __name__ == "__main__":
    unittest.main()
