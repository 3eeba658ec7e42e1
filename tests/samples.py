"""Sheets and wrong values that several tests use."""

from flipthreads.sheets import Sheet

# Four triangles that make a ball of their own: with it and HOLED the counts of [3] are right in two pieces.
SMALL_BALL = [(1, 2, 3), (-1, 4, -5), (-2, 5, -6), (-3, 6, -4)]
HOLED = [(7, 8, 9), (-7, -8, -9)]

# Six triangles that hang together, with three nails instead of five: their surface has a hole through it.
ONE_HOLE = [(1, 2, 3), (-1, 4, 5), (-2, 6, -4), (-3, 7, 8), (-7, -6, 9), (-8, -9, -5)]


def deep(value, depth):
    for _ in range(depth):
        value = [value] if depth % 2 else (value,)
    return value


# Values that are no number at all.
NO_NUMBERS = [
    None, True, False, "", "1", "five", "a b", (), [], (1,), [1], (1, 2), [1, 2, 3], (None,), [True], ("1",),
    [[1]], ((1, 2, 3),), deep(1, 9), deep(1, 10), [None, "x", (1, [2])],
]

# Values that are no list.
NO_LISTS = [None, True, False, 0, 1, -1, 6, 10 ** 29, "", "1", "abcdef", "123456789"]


def drums():
    return [Sheet.drum(nails) for nails in range(5, 11)]


def looped():
    """A sheet on which line 8 begins and ends at nail 2, and the lines 2 and 4 both lead from nail 1 to nail 2."""
    return Sheet.drum(5).flipped(4, 1, 8)


def signed(sheet):
    return [sign * line for line in range(1, sheet.lines + 1) for sign in (1, -1)]


def wander(sheet, steps, seed):
    """The sheets behind many flips, which a fixed rule chooses."""
    met = [sheet]
    for _ in range(steps):
        seed = (seed * 1103515245 + 12345) % 2 ** 31
        choices = [x for x in signed(sheet) if sheet.can_flip(x)]
        sheet = sheet.flipped(choices[(seed >> 8) % len(choices)])
        met.append(sheet)
    return met


def many_sheets():
    return [sheet for at, drum in enumerate(drums()) for sheet in wander(drum, 25, at + 1)]
