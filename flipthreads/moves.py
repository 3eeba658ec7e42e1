"""Moves of a sheet onto itself: flips and a renaming."""

from flipthreads.errors import InvalidRenaming, InvalidTurn, NotPlain
from flipthreads.loops import loop
from flipthreads.sheets import check_line
from flipthreads.weaves import Weave, check_same_sheet


def renamings(one, other):
    """Return the ascending list of the renamings that lead one sheet to the triangles of another."""
    if one.lines != other.lines:
        return []
    found = [spread(one, other, x) for x in other.faces]
    return sorted([renaming for renaming in found if len(renaming) > 0])


class Move:
    """Flips of a plain sheet and a renaming that leads back to its triangles; it never changes.

    `ground` is the sheet; `flip_row` has the flips and `name_row` the items of the renaming.
    """

    def __init__(self, sheet, flips, renaming):
        check_plain(sheet)
        behind = sheet.flipped(*flips).renamed(renaming)
        if behind.faces != sheet.faces:
            raise InvalidRenaming()
        self.ground = sheet
        self.flip_row = tuple(flips)
        self.name_row = tuple(renaming)

    @staticmethod
    def idle(sheet):
        """Return the move without flips that leaves all names."""
        return Move(sheet, [], list(range(1, sheet.lines + 1)))

    @property
    def sheet(self):
        """The sheet that is moved."""
        return self.ground

    def flips(self):
        """Return the list of the flips."""
        return list(self.flip_row)

    def renaming(self):
        """Return the list of how each line is called behind the flips."""
        return list(self.name_row)

    def act(self, weave):
        """Return the weave to which a weave is moved."""
        check_same_sheet(self, weave)
        behind = weave.flipped(*self.flip_row).renamed(self.name_row)
        return Weave(self.ground, behind.counts())

    def goals(self):
        """Return the list of the nails to which the nails go."""
        behind = self.ground.flipped(*self.flip_row).renamed(self.name_row)
        found = [0] * self.ground.nails
        for x in behind.starts:
            found[behind.starts[x]] = self.ground.starts[x]
        return found

    def back(self):
        """Return the move that takes this one back."""
        flips = [-with_sign(flip, called(self.name_row, flip)) for flip in self.flip_row[::-1]]
        return Move(self.ground, flips, turned_round(self.name_row))

    def then(self, other):
        """Return the move that is this one, then another one."""
        check_same_sheet(self, other)
        before = turned_round(self.name_row)
        flips = [with_sign(flip, called(before, flip)) for flip in other.flip_row]
        renaming = [called(other.name_row, name) for name in self.name_row]
        return Move(self.ground, list(self.flip_row) + flips, renaming)

    def does_same(self, other):
        """Tell whether two moves do the same to every thread."""
        return self.parted_by(other) is None

    def parted_by(self, other):
        """Return the least line for whose loop two moves are unlike, or None if there is none."""
        check_same_sheet(self, other)
        for line in range(1, self.ground.lines + 1):
            around = loop(self.ground, line)
            if self.act(around) != other.act(around):
                return line
        return None

    def is_idle(self):
        """Tell whether the move does nothing to any thread."""
        return self.does_same(Move.idle(self.ground))

    def __repr__(self):
        return f"Move({len(self.flip_row)} flips)"


def half_turn(sheet, line):
    """Return the move that exchanges the nails at the ends of a line by a half turn to the left."""
    check_plain(sheet)
    check_line(sheet.faces, line)
    x = abs(line)
    around = sheet.turns(x) + sheet.turns(-x)
    if len(sheet.turns(x)) != 4 or len(around) != 8 or len({abs(y) for y in around}) != 7:
        raise InvalidTurn(line)
    a1, a2, a3 = sheet.turns(x)[1:]
    b1, b2, b3 = sheet.turns(-x)[1:]
    renaming = list(range(1, sheet.lines + 1))
    for old, new in ((a1, a2), (a2, a3), (a3, b1), (b1, b2), (b2, b3), (b3, a1), (x, -x)):
        renaming[abs(old) - 1] = with_sign(old, 1) * new
    return Move(sheet, [abs(y) for y in (a1, b1, a2, b2)], renaming)


def check_plain(sheet):
    """Raise NotPlain unless a sheet is plain."""
    if not sheet.is_plain:
        raise NotPlain()


def spread(one, other, x):
    """Return the renaming that calls line 1 of one sheet x and leads to the triangles of another sheet.

    The name of one line tells those of its triangle, and so on over all triangles. The list is empty if a line would
    get two names.
    """
    names = {1: x}
    left = [1]
    while left:
        line = left.pop()
        told = list(zip(one.faces[line], other.faces[names[line]]))
        for old, new in told + [(-line, -names[line])]:
            if old not in names:
                names[old] = new
                left.append(old)
            elif names[old] != new:
                return []
    return [names[line] for line in range(1, one.lines + 1)]


def called(renaming, line):
    """Return how a renaming calls a signed line."""
    return with_sign(line, 1) * renaming[abs(line) - 1]


def turned_round(renaming):
    """Return the renaming that gives the lines their old names again."""
    old = [0] * len(renaming)
    for line, name in enumerate(renaming, start=1):
        old[abs(name) - 1] = with_sign(name, line)
    return old


def with_sign(like, number):
    """Return a number with the sign of another one instead of its own."""
    return -abs(number) if like < 0 else abs(number)
