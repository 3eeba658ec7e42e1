"""Weaves: sets of closed threads on a sheet, told by how often they cross each line."""

from flipthreads.errors import InvalidCounts, InvalidFactor, Misfit, OtherSheet, Unflippable
from flipthreads.sheets import check_line
from flipthreads.values import is_number, is_row


class Weave:
    """A set of closed threads that do not meet; it never changes.

    `ground` is the sheet on which the threads lie; `row` has the count of each line, line 1 first.
    """

    def __init__(self, sheet, counts):
        check_counts(counts, sheet.lines)
        check_fit(sheet.triangles(), counts)
        self.ground = sheet
        self.row = tuple(counts)

    @staticmethod
    def empty(sheet):
        """Return the weave without threads."""
        return Weave(sheet, [0] * sheet.lines)

    @property
    def sheet(self):
        """The sheet on which the threads lie."""
        return self.ground

    @property
    def total(self):
        """The sum of the counts."""
        return sum(self.row)

    def counts(self):
        """Return the list of how often each line is crossed."""
        return list(self.row)

    def crossings(self, line):
        """Return the count of a signed line."""
        check_line(self.ground.faces, line)
        return count_at(self.row, line)

    def arcs(self, line):
        """Return how many arcs cut off the corner at which a signed line begins, in its triangle."""
        a, b, c = [count_at(self.row, x) for x in self.ground.triangle(line)]
        return (a + c - b) // 2

    def flipped(self, *flips):
        """Return the weave of the same threads behind flips of the sheet, done one after the other."""
        sheet = self.ground
        counts = list(self.row)
        for at, flip in enumerate(flips):
            if not sheet.can_flip(flip):
                raise Unflippable(at)
            counts = counts_behind(sheet, counts, flip)
            sheet = sheet.flipped(flip)
        return Weave(sheet, counts)

    def renamed(self, renaming):
        """Return the weave of the same threads on the renamed sheet."""
        sheet = self.ground.renamed(renaming)
        counts = [0] * sheet.lines
        for name, count in zip(renaming, self.row):
            counts[abs(name) - 1] = count
        return Weave(sheet, counts)

    def within(self, other):
        """Tell whether no count is greater than that of another weave."""
        check_same_sheet(self, other)
        return all([mine <= its for mine, its in zip(self.row, other.row)])

    def __add__(self, other):
        check_same_sheet(self, other)
        return Weave(self.ground, [mine + its for mine, its in zip(self.row, other.row)])

    def __mul__(self, other):
        if not is_number(other) or other < 0:
            raise InvalidFactor(other)
        return Weave(self.ground, [count * other for count in self.row])

    def __rmul__(self, other):
        return self * other

    def __eq__(self, other):
        return isinstance(other, Weave) and self.ground == other.ground and self.row == other.row

    def __bool__(self):
        return any([count > 0 for count in self.row])

    def __repr__(self):
        return f"Weave({self.total} crossings)"


def check_counts(counts, lines):
    """Raise InvalidCounts unless the value is a list with a number from 0 on for each of so many lines."""
    if not is_row(counts) or len(counts) != lines:
        raise InvalidCounts()
    if not all([is_number(count) and count >= 0 for count in counts]):
        raise InvalidCounts()


def check_fit(triangles, counts):
    """Raise Misfit with the index of the first triangle in which arcs cannot join the crossings of its lines."""
    for at, triangle in enumerate(triangles):
        a, b, c = [count_at(counts, x) for x in triangle]
        if (a + b + c) % 2 != 0 or a > b + c or b > a + c or c > a + b:
            raise Misfit(at)


def check_same_sheet(one, other):
    """Raise OtherSheet unless two weaves or moves have equal sheets."""
    if one.sheet != other.sheet:
        raise OtherSheet()


def count_at(counts, line):
    """Return the count of a signed line in a row of counts."""
    return counts[abs(line) - 1]


def counts_behind(sheet, counts, flip):
    """Return the list of the counts of the same threads behind a flip: its line is the other diagonal there."""
    a, b, c, d = [count_at(counts, x) for x in sheet.sides(flip)]
    behind = list(counts)
    behind[abs(flip) - 1] = max(a + c, b + d) - count_at(counts, flip)
    return behind
