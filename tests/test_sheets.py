import unittest

from flipthreads.errors import InvalidLine, InvalidOrder, InvalidSheet, InvalidSize, InvalidTriangle
from flipthreads.sheets import Sheet
from samples import (
    HOLED, NO_LINES, NO_LISTS, NO_NUMBERS, ONE_HOLE, SMALL_BALL, deep, drums, looped, many_sheets, signed,
)

DRUM = [(1, 5, -4), (-1, 7, -8), (2, 6, -5), (-2, 8, -9), (3, 4, -6), (-3, 9, -7)]


def plain_nails(triangles):
    """Tell nails apart without turns: in a triangle, each line begins where the one before it ends."""
    lines = range(1, len(triangles) * 3 // 2 + 1)
    nail = {sign * line: (line, sign) for line in lines for sign in (1, -1)}
    for x, y, z in triangles:
        for before, behind in ((x, y), (y, z), (z, x)):
            old, new = nail[-before], nail[behind]
            nail = {line: new if place == old else place for line, place in nail.items()}
    return nail


def plain_order(sheet):
    """The numbers of the nails as they are met, from the ends alone."""
    met = []
    for x in signed(sheet):
        if sheet.ends(x)[0] not in met:
            met.append(sheet.ends(x)[0])
    return met


class SheetCase(unittest.TestCase):
    def assert_refused(self, error, triangles, **more):
        with self.assertRaises(error) as caught:
            Sheet(triangles, **more)
        self.assertIs(type(caught.exception), error)
        return caught.exception


class Making(SheetCase):
    def test_triangles_of_a_drum(self):
        sheet = Sheet(DRUM)
        self.assertEqual((sheet.nails, sheet.lines), (5, 9))
        self.assertEqual(sheet, Sheet.drum(5))
        self.assertEqual(sheet.order(), [0, 1, 2, 3, 4])

    def test_least_and_greatest_number_of_triangles(self):
        for sheet in drums():
            copy = Sheet(sheet.triangles())
            self.assertEqual(copy, sheet)
            self.assertEqual(len(copy.triangles()), 2 * sheet.nails - 4)
        self.assertEqual([len(sheet.triangles()) for sheet in drums()], [6, 8, 10, 12, 14, 16])

    def test_the_most_nails(self):
        self.assertEqual(Sheet.MOST, 10)
        self.assertEqual(Sheet.drum(Sheet.MOST).nails, 10)

    def test_any_order_and_any_beginning(self):
        for sheet in drums() + [looped()]:
            triangles = sheet.triangles()
            other = [(y, z, x) if at % 3 else (z, x, y) for at, (x, y, z) in enumerate(reversed(triangles))]
            self.assertEqual(Sheet(other, order=sheet.order()), sheet)
            self.assertEqual(Sheet(other).triangles(), triangles)

    def test_a_tuple_of_triangles(self):
        self.assertEqual(Sheet(tuple(DRUM)), Sheet(DRUM))
        self.assertEqual(Sheet(tuple(DRUM), order=[4, 3, 2, 1, 0]), Sheet(DRUM, order=(4, 3, 2, 1, 0)))

    def test_parameters_by_name(self):
        self.assertEqual(Sheet(triangles=DRUM, order=[]), Sheet(DRUM))
        self.assertRaises(TypeError, Sheet, DRUM, [0, 1, 2, 3, 4])

    def test_sheets_with_lines_at_one_nail_and_twin_lines(self):
        sheet = Sheet([(-4, 5, -6), (-3, 9, -7), (-2, 4, 8), (-1, -9, -8), (1, 3, 7), (2, 6, -5)])
        self.assertEqual((sheet.nails, sheet.lines, sheet.is_plain), (5, 9, False))
        self.assertEqual(sheet.ends(8), (1, 1))
        self.assertEqual(sheet.ends(2), sheet.ends(4))

    def test_given_lists_may_be_changed_afterwards(self):
        triangles, order = list(DRUM), [4, 3, 2, 1, 0]
        sheet = Sheet(triangles, order=order)
        triangles[0] = (9, 9, 9)
        triangles.clear()
        order.reverse()
        order.append(7)
        self.assertEqual(sheet, Sheet(DRUM, order=[4, 3, 2, 1, 0]))
        self.assertEqual(sheet.order(), [4, 3, 2, 1, 0])

    def test_arguments_stay(self):
        triangles, order = list(DRUM), [4, 3, 2, 1, 0]
        Sheet(triangles, order=order)
        self.assertEqual((triangles, order), (DRUM, [4, 3, 2, 1, 0]))


class WrongTriangles(SheetCase):
    def test_no_list(self):
        for value in NO_LISTS:
            with self.subTest(value=value):
                self.assertEqual(self.assert_refused(InvalidSheet, value).code, "InvalidSheet")

    def test_other_numbers_of_items(self):
        big = Sheet.drum(10).triangles()
        for many in [0, 1, 2, 3, 4, 5, 7, 9, 11, 13, 15]:
            self.assert_refused(InvalidSheet, big[:many])
            self.assert_refused(InvalidSheet, tuple(big[:many]))
        for many in [17, 18, 32, 400]:
            self.assert_refused(InvalidSheet, (big * 25)[:many])
        self.assert_refused(InvalidSheet, [])
        self.assert_refused(InvalidSheet, SMALL_BALL)

    def test_nested_values_count_as_items(self):
        self.assert_refused(InvalidSheet, deep(DRUM, 3))
        self.assert_refused(InvalidSheet, [DRUM])
        self.assertEqual(self.assert_refused(InvalidTriangle, [[], [], [], [], [], []]).at, 0)

    def test_items_that_are_no_triangle(self):
        wrong = NO_NUMBERS + [
            0, 7, -7, (1, 5), (1, 5, -4, 2), (1, 5, -4, 4), (1, 5, -4, 1),
            [1, 5, -4], ([1, 5, -4],), ((1, 5, -4),), (1, 5, [-4]), (1, 5, (-4,)),
            (1, 5, "-4"), (1, 5, None), (True, 5, -4), (False, 5, -4), (0, 5, -4), (1, 5, 0), (1, 5, 10), (1, 5, -10),
            (10 ** 29, 5, -4), (1, 1, -4), (1, -1, -4), (1, 5, -5), (5, -4, -5), (4, 4, 4), "1,5,-4", "abc",
        ]
        for value in wrong:
            for at in range(6):
                with self.subTest(value=value, at=at):
                    triangles = DRUM[1:at + 1] + [value] + DRUM[at + 1:]
                    self.assertEqual(self.assert_refused(InvalidTriangle, triangles).at, at)

    def test_lines_are_counted_by_the_triangles(self):
        self.assertEqual(Sheet.drum(6).lines, 12)
        self.assertEqual(self.assert_refused(InvalidTriangle, Sheet.drum(6).triangles()[:6]).at, 0)

    def test_a_signed_line_of_an_earlier_item(self):
        for at in range(1, 6):
            triangles = DRUM[:at] + [DRUM[0]] + DRUM[at + 1:]
            self.assertEqual(self.assert_refused(InvalidTriangle, triangles).at, at)
        self.assertEqual(self.assert_refused(InvalidTriangle, [(1, 5, -4), (-1, 7, 5)] + DRUM[2:]).at, 1)
        self.assertEqual(self.assert_refused(InvalidTriangle, DRUM[:5] + [(-3, 9, 1)]).at, 5)
        self.assertEqual(self.assert_refused(InvalidTriangle, [(1, 5, -4), (5, -4, 1)] + DRUM[2:]).at, 1)

    def test_the_first_wrong_item_is_told(self):
        triangles = list(DRUM)
        triangles[2] = "wrong"
        triangles[4] = None
        self.assertEqual(self.assert_refused(InvalidTriangle, triangles).at, 2)
        triangles[1] = DRUM[0]
        self.assertEqual(self.assert_refused(InvalidTriangle, triangles).at, 1)

    def test_triangles_that_do_not_hang_together(self):
        self.assert_refused(InvalidSheet, SMALL_BALL + HOLED)
        self.assert_refused(InvalidSheet, HOLED + SMALL_BALL)
        second = [tuple(x + 6 if x > 0 else x - 6 for x in triangle) for triangle in SMALL_BALL]
        self.assert_refused(InvalidSheet, SMALL_BALL + second)

    def test_another_number_of_nails(self):
        self.assert_refused(InvalidSheet, ONE_HOLE)
        self.assertEqual(len(set(plain_nails(ONE_HOLE).values())), 3)

    def test_both_rules_over_all_ways_to_turn_triangles_over(self):
        refused = 0
        for mask in range(64):
            triangles = [(z, y, x) if mask >> at & 1 else (x, y, z) for at, (x, y, z) in enumerate(DRUM)]
            nails = len(set(plain_nails(triangles).values()))
            if nails == 5:
                self.assertEqual(Sheet(triangles).nails, 5)
            else:
                refused += 1
                self.assert_refused(InvalidSheet, triangles)
        self.assertGreater(refused, 30)

    def test_the_first_listed_error_is_raised(self):
        self.assert_refused(InvalidSheet, ["wrong"] * 5, order="wrong")
        self.assert_refused(InvalidSheet, DRUM[:5] + DRUM[:1] * 2, order=None)
        self.assertEqual(self.assert_refused(InvalidTriangle, ONE_HOLE[:5] + [()], order=[9]).at, 5)
        self.assertEqual(self.assert_refused(InvalidTriangle, (SMALL_BALL + HOLED)[:5] + [None]).at, 5)
        self.assert_refused(InvalidSheet, ONE_HOLE, order=5)
        self.assert_refused(InvalidSheet, SMALL_BALL + HOLED, order=[0, 0, 0, 0, 0])


class Orders(SheetCase):
    def test_the_nail_that_is_met_kth_gets_item_k(self):
        sheet = Sheet(DRUM, order=[3, 0, 4, 1, 2])
        self.assertEqual(sheet.order(), [3, 0, 4, 1, 2])
        self.assertEqual([sheet.ends(x) for x in (1, 2, 3)], [(3, 0), (0, 4), (4, 3)])
        self.assertEqual([sheet.ends(x) for x in (4, 7, -7)], [(3, 1), (3, 2), (2, 3)])

    def test_an_empty_order_stands_for_0_1_2(self):
        for order in ([], (), [0, 1, 2, 3, 4], (0, 1, 2, 3, 4)):
            self.assertEqual(Sheet(DRUM, order=order), Sheet(DRUM))
            self.assertEqual(Sheet(DRUM, order=order).order(), [0, 1, 2, 3, 4])

    def test_orders_of_the_greatest_sheet(self):
        order = [9, 7, 5, 3, 1, 0, 2, 4, 6, 8]
        sheet = Sheet(Sheet.drum(10).triangles(), order=order)
        self.assertEqual(sheet.order(), order)
        self.assertEqual(plain_order(sheet), order)

    def test_wrong_orders(self):
        wrong = NO_LISTS + [
            [0], [0, 1, 2, 3], [0, 1, 2, 3, 4, 5], [0, 1, 2, 3, 3], [1, 2, 3, 4, 5], [0, 1, 2, 3, -4],
            [0, 1, 2, 3, "4"],
            [0, True, 2, 3, 4], [False, 1, 2, 3, 4], [False, True, 2, 3, 4], [0, 1, 2, 3, None], [0, 1, 2, 3, [4]],
            [0, 1, 2, 3, (4,)], [[0, 1, 2, 3, 4]], ((0, 1, 2, 3, 4),), [None], [[]], [()], ["01234"],
            [0, 1, 2, 3, 10 ** 29],
            (4, 3, 2, 1), (4, 4, 4, 4, 4), [0] * 400, deep(0, 10),
        ]
        for order in wrong:
            with self.subTest(order=order):
                self.assertEqual(self.assert_refused(InvalidOrder, DRUM, order=order).code, "InvalidOrder")

    def test_returned_orders_are_new(self):
        sheet = Sheet(DRUM, order=[3, 0, 4, 1, 2])
        sheet.order().append(5)
        sheet.order().clear()
        self.assertEqual(sheet.order(), [3, 0, 4, 1, 2])
        self.assertIsNot(sheet.order(), sheet.order())


class Drums(SheetCase):
    def test_lines_nails_and_triangles(self):
        for nails in range(5, 11):
            sheet, rim = Sheet.drum(nails), nails - 2
            self.assertEqual((sheet.nails, sheet.lines, sheet.is_plain), (nails, 3 * rim, True))
            for i in range(rim):
                j = i + 1 if i < rim - 1 else 0
                self.assertEqual(sheet.ends(i + 1), (i, j))
                self.assertEqual(sheet.ends(rim + i + 1), (i, rim))
                self.assertEqual(sheet.ends(2 * rim + i + 1), (i, rim + 1))
                self.assertEqual(sheet.triangle(i + 1), (i + 1, rim + j + 1, -(rim + i + 1)))
                self.assertEqual(sheet.triangle(-(i + 1)), (-(i + 1), 2 * rim + i + 1, -(2 * rim + j + 1)))
            self.assertEqual(sheet.order(), list(range(nails)))

    def test_by_name(self):
        self.assertEqual(Sheet.drum(nails=5), Sheet(DRUM))

    def test_wrong_sizes(self):
        for nails in NO_NUMBERS + [0, 1, 3, 4, 11, 12, -5, 10 ** 29, -10 ** 29, "5", (5,), [5]]:
            with self.subTest(nails=nails):
                with self.assertRaises(InvalidSize) as caught:
                    Sheet.drum(nails)
                self.assertIs(caught.exception.given, nails)


class Asking(SheetCase):
    def test_triangles_are_ascending_and_begun_with_the_least_line(self):
        for sheet in many_sheets():
            triangles = sheet.triangles()
            self.assertEqual(triangles, sorted(triangles))
            for x, y, z in triangles:
                self.assertLess(abs(x), min(abs(y), abs(z)))
            self.assertEqual(sorted(x for triangle in triangles for x in triangle), sorted(signed(sheet)))
            self.assertEqual(Sheet(triangles, order=sheet.order()), sheet)

    def test_kinds_of_the_values(self):
        sheet = Sheet.drum(6)
        for value in (sheet.triangles(), sheet.order(), sheet.turns(1)):
            self.assertIs(type(value), list)
        for value in (sheet.triangles()[0], sheet.triangle(1), sheet.ends(1), sheet.sides(1)):
            self.assertIs(type(value), tuple)
        for value in (sheet.is_plain, sheet.can_flip(1)):
            self.assertIs(type(value), bool)

    def test_triangle_begins_with_the_line(self):
        for sheet in many_sheets():
            for x, y, z in sheet.triangles():
                self.assertEqual(sheet.triangle(x), (x, y, z))
                self.assertEqual(sheet.triangle(y), (y, z, x))
                self.assertEqual(sheet.triangle(z), (z, x, y))

    def test_ends_tell_nails_apart(self):
        for sheet in many_sheets():
            nail = plain_nails(sheet.triangles())
            numbers = {}
            for x in signed(sheet):
                begin, end = sheet.ends(x)
                self.assertEqual(sheet.ends(-x), (end, begin))
                self.assertEqual(numbers.setdefault(nail[x], begin), begin)
            self.assertEqual(sorted(numbers.values()), list(range(sheet.nails)))
            self.assertEqual(plain_order(sheet), sheet.order())

    def test_turns_go_once_around_a_nail(self):
        for sheet in many_sheets():
            for x in signed(sheet):
                turns = sheet.turns(x)
                self.assertEqual(turns[0], x)
                there = [y for y in signed(sheet) if sheet.ends(y)[0] == sheet.ends(x)[0]]
                self.assertEqual(sorted(turns), sorted(there))
                for before, behind in zip(turns, turns[1:] + turns[:1]):
                    self.assertEqual(sheet.triangle(before)[2], -behind)

    def test_turns_where_a_line_has_both_ends(self):
        self.assertEqual(looped().turns(8), [8, -4, 6, -2, -8, 9, 3, -1])
        self.assertEqual(looped().turns(-8), [-8, 9, 3, -1, 8, -4, 6, -2])
        self.assertEqual({looped().ends(x)[0] for x in looped().turns(8)}, {2})

    def test_plain_sheets(self):
        self.assertIs(looped().is_plain, False)
        self.assertIs(Sheet.drum(5).flipped(4, 1).is_plain, True)
        for sheet in many_sheets():
            plain = all(sheet.ends(x)[0] != sheet.ends(x)[1] for x in signed(sheet))
            self.assertIs(sheet.is_plain, plain)

    def test_lines_by_name(self):
        sheet = Sheet.drum(5)
        self.assertEqual(sheet.triangle(line=1), (1, 5, -4))
        self.assertEqual(sheet.ends(line=1), (0, 1))
        self.assertEqual(sheet.turns(line=1), [1, 4, -3, 7])
        self.assertEqual(sheet.sides(line=1), (7, -8, 5, -4))
        self.assertIs(sheet.can_flip(line=1), True)

    def test_wrong_lines(self):
        sheet, big = Sheet.drum(5), Sheet.drum(10)
        asks = [sheet.triangle, sheet.ends, sheet.turns, sheet.sides, sheet.can_flip]
        for line in NO_LINES:
            for ask in asks:
                with self.subTest(line=line, ask=ask.__name__):
                    with self.assertRaises(InvalidLine) as caught:
                        ask(line)
                    self.assertIs(caught.exception.given, line)
        for ask in [big.triangle, big.ends, big.turns, big.sides, big.can_flip]:
            self.assertRaises(InvalidLine, ask, 25)
            self.assertRaises(InvalidLine, ask, -25)
            ask(24)
            ask(-24)

    def test_returned_lists_may_be_changed(self):
        sheet = Sheet.drum(5)
        for ask in (sheet.triangles, sheet.order, lambda: sheet.turns(1)):
            before = ask()
            ask().clear()
            ask().append("more")
            self.assertEqual(ask(), before)
            self.assertIsNot(ask(), ask())
        self.assertEqual(sheet, Sheet(DRUM))

    def test_properties_cannot_be_assigned(self):
        sheet = Sheet.drum(5)
        for name in ("nails", "lines", "is_plain"):
            self.assertRaises(AttributeError, setattr, sheet, name, 1)


class Comparing(SheetCase):
    def test_equal_and_unequal_sheets(self):
        self.assertTrue(Sheet(DRUM) == Sheet(DRUM[::-1]))
        self.assertFalse(Sheet(DRUM) != Sheet(DRUM[::-1]))
        self.assertTrue(Sheet(DRUM) != Sheet.drum(6))
        self.assertFalse(Sheet(DRUM) == Sheet.drum(6))
        self.assertFalse(Sheet(DRUM) == Sheet.drum(5).flipped(1))

    def test_nails_with_other_numbers(self):
        one, other = Sheet(DRUM), Sheet(DRUM, order=[0, 1, 2, 4, 3])
        self.assertFalse(one == other)
        self.assertTrue(one != other)
        self.assertEqual(one.triangles(), other.triangles())

    def test_the_same_nails_at_another_line(self):
        sheet = Sheet.drum(5)
        turned = sheet.renamed([2, 3, 1, 5, 6, 4, 8, 9, 7])
        self.assertEqual(turned.triangles(), sheet.triangles())
        self.assertNotEqual(turned, sheet)

    def test_a_sheet_equals_nothing_else(self):
        sheet = Sheet(DRUM)

        class Agreeable:
            def __eq__(self, other):
                return True

        for value in [None, True, 5, "Sheet(5 nails, 9 lines)", DRUM, sheet.triangles(), (), object(), Agreeable()]:
            self.assertIs(sheet == value, False)
            self.assertIs(sheet != value, True)
        self.assertIs(None == sheet, False)

    def test_repr(self):
        self.assertEqual(repr(Sheet.drum(5)), "Sheet(5 nails, 9 lines)")
        self.assertEqual(repr(Sheet.drum(10)), "Sheet(10 nails, 24 lines)")
        self.assertEqual(repr(looped()), "Sheet(5 nails, 9 lines)")


if __name__ == "__main__":
    unittest.main()
