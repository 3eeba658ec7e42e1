"""Sheets: balls whose surface is cut into triangles by lines between nails."""

from flipthreads.errors import InvalidLine, InvalidOrder, InvalidRenaming, InvalidSheet, InvalidSize
from flipthreads.errors import InvalidTriangle, Unflippable
from flipthreads.values import is_number, is_row

LEAST_NAILS = 5
LEAST_TRIANGLES = 6
MOST_TRIANGLES = 16


class Sheet:
    """A ball cut into triangles; it never changes.

    `faces` has for each signed line its triangle, begun with it; `starts` has the number of the nail at which each
    signed line begins; `numbers` has the numbers of the nails as they are met.
    """

    MOST = 10

    def __init__(self, triangles, *, order=()):
        check_triangle_list(triangles)
        faces = read_faces(triangles)
        corners = read_corners(faces)
        check_ball(faces, corners)
        numbers = read_order(order, len(corners))
        self.faces = faces
        self.numbers = numbers
        self.starts = {x: numbers[k] for k, corner in enumerate(corners) for x in corner}

    @staticmethod
    def drum(nails):
        """Return the drum with this number of nails."""
        if not is_number(nails) or nails < LEAST_NAILS or nails > Sheet.MOST:
            raise InvalidSize(nails)
        rim = nails - 2
        triangles = []
        for i in range(rim):
            j = (i + 1) % rim
            triangles.append((i + 1, rim + j + 1, -(rim + i + 1)))
            triangles.append((-(i + 1), 2 * rim + i + 1, -(2 * rim + j + 1)))
        return Sheet(triangles)

    @property
    def nails(self):
        """How many nails there are."""
        return len(self.numbers)

    @property
    def lines(self):
        """How many lines there are."""
        return len(self.faces) // 2

    @property
    def is_plain(self):
        """Whether each line has its ends at two nails."""
        return all([self.starts[x] != self.starts[-x] for x in self.starts])

    def triangles(self):
        """Return the ascending list of the triangles, each begun with the line with the least number."""
        return sorted(each_once(self.faces))

    def order(self):
        """Return the list of the numbers of the nails as they are met."""
        return list(self.numbers)

    def triangle(self, line):
        """Return the triangle of a signed line, begun with it."""
        check_line(self.faces, line)
        return self.faces[line]

    def ends(self, line):
        """Return the pair of the nails at which a signed line begins and ends."""
        check_line(self.faces, line)
        return (self.starts[line], self.starts[-line])

    def turns(self, line):
        """Return the list of the signed lines that begin where this one does, to the left around the nail."""
        check_line(self.faces, line)
        return turns_around(self.faces, line)

    def sides(self, line):
        """Return the four sides (r, s, p, q) of the piece in which the line is a diagonal."""
        check_line(self.faces, line)
        return four_sides(self.faces, line)

    def can_flip(self, line):
        """Tell whether the flip of a line is not refused."""
        check_line(self.faces, line)
        return flips_well(self.faces, line)

    def flipped(self, *flips):
        """Return the sheet behind flips, done one after the other."""
        faces = dict(self.faces)
        starts = dict(self.starts)
        for at, flip in enumerate(flips):
            check_line(faces, flip)
            if not flips_well(faces, flip):
                raise Unflippable(at)
            do_flip(faces, starts, flip)
        return sheet_with(faces, starts)

    def renamed(self, renaming):
        """Return the sheet on which each line is called as a renaming says."""
        if not is_renaming(renaming, self.lines):
            raise InvalidRenaming()
        called = {}
        for at, name in enumerate(renaming):
            called[at + 1] = name
            called[-at - 1] = -name
        faces = {called[x]: tuple([called[y] for y in self.faces[x]]) for x in self.faces}
        starts = {called[x]: self.starts[x] for x in self.starts}
        return sheet_with(faces, starts)

    def __eq__(self, other):
        return isinstance(other, Sheet) and self.faces == other.faces and self.starts == other.starts

    def __repr__(self):
        return f"Sheet({self.nails} nails, {self.lines} lines)"


def check_triangle_list(triangles):
    """Raise InvalidSheet unless the value is a list with as many items as a sheet has triangles."""
    if not is_row(triangles) or len(triangles) < LEAST_TRIANGLES or len(triangles) > MOST_TRIANGLES:
        raise InvalidSheet()
    if len(triangles) % 2 != 0:
        raise InvalidSheet()


def is_triangle(value, lines):
    """Tell whether any value is a tuple of three signed lines of unlike lines, if there are so many lines."""
    if not isinstance(value, tuple) or len(value) != 3:
        return False
    if not all([is_number(x) and x != 0 and abs(x) <= lines for x in value]):
        return False
    return len({abs(x) for x in value}) == 3


def read_faces(triangles):
    """Return a dict with the triangle of each signed line, begun with it."""
    lines = len(triangles) * 3 // 2
    faces = {}
    for at, triangle in enumerate(triangles):
        if not is_triangle(triangle, lines) or any([x in faces for x in triangle]):
            raise InvalidTriangle(at)
        put_face(faces, triangle)
    return faces


def put_face(faces, triangle):
    """Enter a triangle under each of its signed lines."""
    x, y, z = triangle
    faces[x] = (x, y, z)
    faces[y] = (y, z, x)
    faces[z] = (z, x, y)


def each_once(faces):
    """Return the list of the triangles, each begun with the line with the least number."""
    return [(x, y, z) for x, y, z in faces.values() if abs(x) < abs(y) and abs(x) < abs(z)]


def signed_lines(faces):
    """Return the list 1, -1, 2, -2 and so on of all signed lines."""
    return [x for line in range(1, len(faces) // 2 + 1) for x in (line, -line)]


def turn_of(faces, line):
    """Return the turn of a signed line, which begins at the same nail."""
    return -faces[line][2]


def turns_around(faces, line):
    """Return the list of the signed lines around a nail, each the turn of the one before it."""
    turns = [line]
    turn = turn_of(faces, line)
    while turn != line:
        turns.append(turn)
        turn = turn_of(faces, turn)
    return turns


def read_corners(faces):
    """Return the lists of the signed lines that begin at each nail, in the order in which the nails are met."""
    corners = []
    met = {}
    for x in signed_lines(faces):
        if x not in met:
            corner = turns_around(faces, x)
            corners.append(corner)
            for y in corner:
                met[y] = True
    return corners


def hang_together(faces):
    """Tell whether one can walk from the triangle of line 1 over lines into all triangles."""
    met = {}
    left = [1]
    while left:
        x = left.pop()
        if x not in met:
            for y in faces[x]:
                met[y] = True
                left.append(-y)
    return len(met) == len(faces)


def check_ball(faces, corners):
    """Raise InvalidSheet unless the triangles make one ball.

    A ball and, apart from it, a surface with one hole through it have together as many nails as one ball: so both
    tests are needed.
    """
    triangles = len(faces) // 3
    if not hang_together(faces) or len(corners) != triangles // 2 + 2:
        raise InvalidSheet()


def read_order(order, nails):
    """Return the tuple of the numbers of so many nails as they are met."""
    if not is_row(order):
        raise InvalidOrder()
    if len(order) == 0:
        return tuple(range(nails))
    if not all([is_number(nail) for nail in order]) or sorted(order) != list(range(nails)):
        raise InvalidOrder()
    return tuple(order)


def is_line(faces, value):
    """Tell whether any value is a signed line."""
    return is_number(value) and value in faces


def check_line(faces, line):
    """Raise InvalidLine unless the value is a signed line."""
    if not is_line(faces, line):
        raise InvalidLine(line)


def four_sides(faces, line):
    """Return the sides (r, s, p, q) around a line, in whichever direction it is given."""
    x = abs(line)
    p, q = faces[x][1:]
    r, s = faces[-x][1:]
    return (r, s, p, q)


def flips_well(faces, line):
    """Tell whether each triangle behind the flip of a line still has unlike lines."""
    r, s, p, q = four_sides(faces, line)
    return abs(q) != abs(r) and abs(s) != abs(p)


def do_flip(faces, starts, flip):
    """Flip a line in both dicts.

    The flipped line begins where its turn does. Its turn is a side, and no side leaves its nails.
    """
    r, s, p, q = four_sides(faces, flip)
    put_face(faces, (flip, q, r))
    put_face(faces, (-flip, s, p))
    for x in (flip, -flip):
        starts[x] = starts[turn_of(faces, x)]


def is_renaming(value, lines):
    """Tell whether any value is a renaming of so many lines."""
    if not is_row(value) or not all([is_number(x) for x in value]):
        return False
    return sorted([abs(x) for x in value]) == list(range(1, lines + 1))


def sheet_with(faces, starts):
    """Return the sheet with these triangles, on which each signed line begins at the nail with the given number."""
    order = []
    for x in signed_lines(faces):
        if starts[x] not in order:
            order.append(starts[x])
    return Sheet(each_once(faces), order=order)
