"""Sheets, weaves and wrong values that several tests use."""

from flipthreads.loops import loop, ring
from flipthreads.sheets import Sheet
from flipthreads.walks import word
from flipthreads.weaves import Weave

# Four triangles that make a ball of their own: with it and HOLED the counts of [3] are right in two pieces.
SMALL_BALL = [(1, 2, 3), (-1, 4, -5), (-2, 5, -6), (-3, 6, -4)]
HOLED = [(7, 8, 9), (-7, -8, -9)]

# Six triangles that hang together, with three nails instead of five: their surface has a hole through it.
ONE_HOLE = [(1, 2, 3), (-1, 4, 5), (-2, 6, -4), (-3, 7, 8), (-7, -6, 9), (-8, -9, -5)]


def deep(value, depth):
    for _ in range(depth):
        value = [value] if depth % 2 else (value,)
    return value


# Values that are no number at all.
NO_NUMBERS = [
    None, True, False, "", "1", "five", "a b", (), [], (1,), [1], (1, 2), [1, 2, 3], (None,), [True], ("1",),
    [[1]], ((1, 2, 3),), deep(1, 9), deep(1, 10), [None, "x", (1, [2])],
]

# Values that are no list.
NO_LISTS = [None, True, False, 0, 1, -1, 6, 10 ** 29, "", "1", "abcdef", "123456789"]


def drums():
    return [Sheet.drum(nails) for nails in range(5, 11)]


def looped():
    """A sheet on which line 8 begins and ends at nail 2, and the lines 2 and 4 both lead from nail 1 to nail 2."""
    return Sheet.drum(5).flipped(4, 1, 8)


def signed(sheet):
    return [sign * line for line in range(1, sheet.lines + 1) for sign in (1, -1)]


def wander(sheet, steps, seed):
    """The sheets behind many flips, which a fixed rule chooses."""
    met = [sheet]
    for _ in range(steps):
        seed = (seed * 1103515245 + 12345) % 2 ** 31
        choices = [x for x in signed(sheet) if sheet.can_flip(x)]
        sheet = sheet.flipped(choices[(seed >> 8) % len(choices)])
        met.append(sheet)
    return met


def many_sheets():
    return [sheet for at, drum in enumerate(drums()) for sheet in wander(drum, 25, at + 1)]


# Values that are no signed line of the drum with 5 nails.
NO_LINES = NO_NUMBERS + [0, 10, -10, 24, 10 ** 29, -10 ** 29]

# The counts of two single threads on the drum with 5 nails: they add up to 5000, and to one more.
FULL_THREAD = [2, 835, 829, 831, 833, 2, 833, 831, 4]
GREAT_THREAD = [3, 830, 835, 831, 834, 4, 832, 829, 3]


def renamings(sheet):
    """Some renamings of a sheet: mixed lines, lines in other directions, names that stay."""
    lines = sheet.lines
    mixed = [[((k * 5 + step) % lines + 1) * (-1 if (k * step) % 3 == 1 else 1) for k in range(lines)]
             for step in range(6)]
    made = mixed + [list(range(1, lines + 1)), list(range(-lines, 0)), [-x for x in range(1, lines + 1)]]
    return [row for row in made if sorted(map(abs, row)) == list(range(1, lines + 1))]


def wrong_renamings():
    """Values that are no renaming of the drum with 5 nails."""
    row = [1, 2, 3, 4, 5, 6, 7, 8, 9]
    return NO_LISTS + [
        [], (), row[:8], row + [10], row + [1], row[1:] + [10], row[1:] + [0], row[1:] + [2], row[1:] + [-2],
        row[1:] + [None], row[1:] + ["1"], row[1:] + [True], [True] + row[1:], row[1:] + [[1]], row[1:] + [(1,)],
        [row], (row,), [1] * 9, [0] * 9, [-9] * 9, row[1:] + [10 ** 29], [str(x) for x in row], deep(1, 10),
        [None] * 9, [[]] * 9, row * 2, [1] * 400,
    ]


def loopable(sheet):
    """The lines of a sheet whose ends are at two nails."""
    return [x for x in range(1, sheet.lines + 1) if sheet.ends(x)[0] != sheet.ends(x)[1]]


def carried(weave, steps, seed):
    """The weaves behind many flips, which a fixed rule chooses."""
    met = []
    for _ in range(steps):
        seed = (seed * 1103515245 + 12345) % 2 ** 31
        choices = [x for x in signed(weave.sheet) if weave.sheet.can_flip(x)]
        weave = weave.flipped(choices[(seed >> 8) % len(choices)])
        met.append(weave)
    return met


def half_turned(weave, times):
    """A weave on the drum with 5 nails behind some half turns of line 1; the flips and names are those of [23]."""
    for _ in range(times):
        behind = weave.flipped(4, 8, 3, 2).renamed([-1, 5, -7, -3, 4, 6, 8, 2, 9])
        weave = Weave(weave.sheet, behind.counts())
    return weave


def braided(weave, times):
    """A weave on the drum with 5 nails behind half turns, two for each line of the rim: its counts grow fast."""
    for _ in range(times):
        turned = half_turned(weave, 2).renamed([2, 3, 1, 5, 6, 4, 8, 9, 7])
        weave = Weave(weave.sheet, turned.counts())
    return weave


def some_threads():
    """Single threads on many sheets: rings, loops, and loops that flips have carried along."""
    made = []
    for sheet in many_sheets()[::6] + [looped()]:
        made += [ring(sheet, nail) for nail in range(sheet.nails)]
        made += [loop(sheet, line) for line in loopable(sheet)]
    for at, sheet in enumerate(drums()):
        made += carried(loop(sheet, at + 1), 30, at + 11)[::3]
    return made + [braided(loop(Sheet.drum(5), 1), times) for times in range(1, 6)]


def some_weaves():
    """Weaves on many sheets: single threads, multiples, and sums of threads that may and may not be laid apart."""
    made = some_threads()[::2] + [Weave.empty(sheet) for sheet in drums()]
    for at, sheet in enumerate(many_sheets()[::6] + [looped()]):
        lines = loopable(sheet)
        one, other = loop(sheet, lines[at % len(lines)]), loop(sheet, lines[(at * 3 + 1) % len(lines)])
        around = ring(sheet, at % sheet.nails)
        made += [one + other, one * 2 + other * 3, one * 3 + around * 2, one + other + around, around * 4]
        made += carried(one * 2 + other, 6, at)[::2]
    one, other = braided(loop(Sheet.drum(5), 4), 4), loop(Sheet.drum(5), 1)
    return made + [one, one * 2, one + other, one * 3 + other * 2 + ring(Sheet.drum(5), 2)]


def plain_threads(weave):
    """The counts of the threads of a weave, ascending, by joining the crossings at the ends of all arcs."""
    counts = [0] + weave.counts()
    place = {(x, p): (x, p) if x > 0 else (-x, counts[-x] - 1 - p)
             for x in signed(weave.sheet) for p in range(counts[abs(x)])}
    group = {crossing: [crossing] for crossing in place.values()}
    for x, y, z in [turn for t in weave.sheet.triangles() for turn in (t, t[1:] + t[:1], t[2:] + t[:2])]:
        for p in range((counts[abs(x)] + counts[abs(z)] - counts[abs(y)]) // 2):
            one, other = group[place[x, p]], group[place[-z, p]]
            if one is not other:
                one += other
                for crossing in other:
                    group[crossing] = one
    found = {id(row): row for row in group.values()}
    return sorted([sum(x == line for x, _ in row) for line in range(1, weave.sheet.lines + 1)]
                  for row in found.values())


def detours(sheet, path, seed):
    """A path with detours: at some places one walks over a line and turns back, at one place twice."""
    made = []
    for at, x in enumerate(path):
        made.append(x)
        seed = (seed * 1103515245 + 12345) % 2 ** 31
        if seed % 3 > 0:
            y = -sheet.triangle(x)[(seed >> 8) % 3]
            z = -sheet.triangle(y)[(seed >> 12) % 3]
            made += [y, -y] if seed % 3 == 1 else [y, z, -z, -y]
    return made


def turned(row, start):
    return list(row[start:]) + list(row[:start])


def backwards(row):
    return [-x for x in reversed(row)]


def plain_tight(path):
    """The tight path, by removing the last pair that can be removed, one after the other."""
    left = list(path)
    at = len(left) - 1
    while at >= 0:
        if len(left) > 1 and left[at] == -left[at - 1]:
            left = left[:at - 1] + left[at + 1:] if at > 0 else left[1:-1]
            at = len(left)
        at -= 1
    return min([tuple(turned(left, start)) for start in range(len(left))], default=())


def joined_words(one, other):
    """The paths along two threads, one after the other, which meet in a triangle; in both directions of the other."""
    return [turned(a, i) + turned(b, k)
            for a in (list(word(one)),) for b in (list(word(other)), backwards(word(other)))
            for i in range(len(a)) for k in range(len(b))
            if set(one.sheet.triangle(a[i - 1])) == set(one.sheet.triangle(b[k - 1]))]


# Values that are no name.
NO_NAMES = [
    "", "A", "aB", "a1", "a b", " a", "abcdefghi", "a\n", "-", "1", 0, 1, -5, 10 ** 29, True, False, None, (), [],
    ("a",), ["a"], [["a"]], ("a", 1), deep("a", 10),
]

# The counts of some drawings on the drum with 5 nails: the ring around nail 0 and the loops around the lines 1 and 2.
RING = [1, 0, 1, 1, 0, 0, 1, 0, 0]
FIRST = [0, 1, 1, 1, 1, 0, 1, 1, 0]
SECOND = [1, 0, 1, 0, 1, 1, 0, 1, 1]
NOTHING = [0] * 9

# The path along the loop around line 1.
AROUND = [2, 5, 4, -3, 7, 8]


def state_of(board):
    """All that a board tells of itself; threads are not asked."""
    return (
        board.sheet, board.names(), [board.weave(name).counts() for name in board.names()], board.limit, board.busy,
        board.computed, board.kept(), board.history(), len(board),
    )
