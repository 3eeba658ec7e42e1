"""Boards: a sheet with named drawings, their history, and the threads that were computed."""

from flipthreads.errors import DuplicateName, Entangled, InvalidDeed, InvalidLimit, InvalidName, NothingLeft
from flipthreads.errors import NotThread, TooMany, UnknownName
from flipthreads.meetings import meet
from flipthreads.paths import lay
from flipthreads.splits import split
from flipthreads.values import is_name, is_number
from flipthreads.weaves import Weave, counts_behind


class Draft:
    """What becomes of a board while the deeds of one call are done; the board takes it over if all were done.

    It has what the board has: `ground`, `drawings`, `found`, `made` and `bound`. `trail` has the flips of the call.
    """

    def __init__(self, board):
        self.ground = board.ground
        self.drawings = board.drawings
        self.found = board.found
        self.made = board.made
        self.bound = board.bound
        self.trail = ()


def draw_counts(draft, deed):
    """Give a name the weave with some counts."""
    name, counts = deed[1:]
    check_place(draft, name)
    put_drawing(draft, name, Weave(draft.ground, counts))


def lay_path(draft, deed):
    """Give a name the thread of a path."""
    name, path = deed[1:]
    check_place(draft, name)
    found = lay(draft.ground, path)
    if not found.possible:
        raise NotThread()
    put_drawing(draft, name, found.thread)


def join_two(draft, deed):
    """Give a name the sum of two drawings that can be laid apart."""
    name, one, other = deed[1:]
    check_place(draft, name)
    first = weave_of(draft, one)
    second = weave_of(draft, other)
    if not meet(first, second).apart:
        raise Entangled(one, other)
    put_drawing(draft, name, first + second)


def flip_line(draft, deed):
    """Flip a line of the sheet, and carry over all drawings and all threads that are kept."""
    flip = deed[1]
    behind = draft.ground.flipped(flip)
    draft.drawings = tuple([(name, key, tuple(counts_behind(draft.ground, counts, flip)))
                            for name, key, counts in draft.drawings])
    draft.found = found_behind(draft.ground, draft.found, [flip])
    draft.ground = behind
    draft.trail = (*draft.trail, flip)


def drop_one(draft, deed):
    """Take a drawing away."""
    gone = drawing_of(draft.drawings, deed[1])
    draft.drawings = tuple([drawing for drawing in draft.drawings if drawing != gone])


def rename_one(draft, deed):
    """Give a drawing another name."""
    name, fresh = deed[1:]
    old = drawing_of(draft.drawings, name)
    if not is_name(fresh):
        raise InvalidName(fresh)
    if fresh in names_of(draft.drawings):
        raise DuplicateName(fresh)
    new = (fresh, old[1], old[2])
    draft.drawings = tuple([new if drawing == old else drawing for drawing in draft.drawings])


DEEDS = {
    "draw": draw_counts, "lay": lay_path, "join": join_two, "flip": flip_line, "drop": drop_one, "rename": rename_one,
}
SIZES = {"draw": 3, "lay": 3, "join": 4, "flip": 2, "drop": 2, "rename": 3}


class Board:
    """A sheet with named drawings.

    `ground` is the sheet. `drawings` has a tuple (name, key, counts) for each drawing, in order; the key stays the same
    while a drawing is flipped, renamed, undone and made again. `found` has for the key of each drawing whose threads
    were computed the pairs (counts, times) of its threads, on the present sheet. `made` is the number of the drawings
    that were made, `bound` the limit. `past` and `future` have the steps that can be undone and redone: tuples with
    what was there before the step, its flips, and what was there behind it.
    """

    MOST = 20

    def __init__(self, sheet, *, limit=8):
        check_limit(limit, 0)
        self.ground = sheet
        self.drawings = ()
        self.found = {}
        self.made = 0
        self.bound = limit
        self.past = []
        self.future = []
        self.working = False

    @property
    def sheet(self):
        """The sheet."""
        return self.ground

    @property
    def busy(self):
        """Whether deeds are being done."""
        return self.working

    @property
    def computed(self):
        """The number of drawings whose threads were computed."""
        return len(self.found)

    @property
    def limit(self):
        """The number of drawings that deeds do not exceed."""
        return self.bound

    @limit.setter
    def limit(self, value):
        self.set_limit(value)

    def set_limit(self, value):
        """Give the board another limit."""
        check_limit(value, len(self.drawings))
        self.bound = value

    def apply(self, *deeds):
        """Do deeds, one after the other, as one step; if one of them is refused, none is done."""
        check_deeds(deeds)
        self.working = True
        try:
            if len(deeds) > 0:
                self.take_over(draft_behind(self, deeds))
        finally:
            self.working = False

    def take_over(self, draft):
        """Become what deeds have made of the board."""
        before = (self.ground, self.drawings)
        behind = (draft.ground, draft.drawings)
        self.past.append((before, draft.trail, behind))
        self.future = []
        self.ground = draft.ground
        self.drawings = draft.drawings
        self.found = draft.found
        self.made = draft.made

    def undo(self):
        """Take the last step back."""
        if len(self.past) == 0:
            raise NothingLeft()
        step = self.past.pop()
        before, trail, behind = step
        self.future.append(step)
        self.found = found_behind(self.ground, self.found, [-flip for flip in trail[::-1]])
        self.ground, self.drawings = before

    def redo(self):
        """Make the step again that was undone last."""
        if len(self.future) == 0:
            raise NothingLeft()
        step = self.future.pop()
        before, trail, behind = step
        self.past.append(step)
        self.found = found_behind(self.ground, self.found, trail)
        self.ground, self.drawings = behind

    def forget_steps(self):
        """Leave the board as it is, with no step that can be undone or redone."""
        self.past = []
        self.future = []

    def history(self):
        """Return the pair of the numbers of steps that can be undone and redone."""
        return (len(self.past), len(self.future))

    def names(self):
        """Return the list of the names, in order."""
        return names_of(self.drawings)

    def weave(self, name):
        """Return the drawing with a name."""
        return weave_of(self, name)

    def threads_of(self, name):
        """Return the split of a drawing, and keep it."""
        key, counts = drawing_of(self.drawings, name)[1:]
        if key not in self.found:
            pairs = split(Weave(self.ground, counts))
            self.found[key] = [(tuple(thread.counts()), times) for thread, times in pairs]
        return [(Weave(self.ground, row), times) for row, times in sorted(self.found[key])]

    def kept(self):
        """Return the ascending list of the names of the drawings whose threads are kept."""
        return sorted([name for name, key, counts in self.drawings if key in self.found])

    def twin(self):
        """Return an independent board that is like this one, with its history and all that it keeps."""
        other = Board(self.ground, limit=self.bound)
        other.drawings = self.drawings
        other.found = dict(self.found)
        other.made = self.made
        other.past = list(self.past)
        other.future = list(self.future)
        return other

    def __contains__(self, x):
        return x in names_of(self.drawings)

    def __len__(self):
        return len(self.drawings)

    def __eq__(self, other):
        return isinstance(other, Board) and self.ground == other.ground and shown(self) == shown(other)

    def __repr__(self):
        return f"Board({self.ground.nails} nails, {len(self.drawings)} drawings)"


def check_limit(value, drawings):
    """Raise InvalidLimit unless the value may be the limit of a board with so many drawings."""
    if not is_number(value) or value < 1 or value < drawings or value > Board.MOST:
        raise InvalidLimit(value)


def check_deeds(deeds):
    """Raise InvalidDeed with the index of the first value that is no deed."""
    for at, deed in enumerate(deeds):
        if not is_deed(deed):
            raise InvalidDeed(at)


def is_deed(value):
    """Tell whether any value is a tuple that begins with the word of a deed and has as many items as the deed."""
    if not isinstance(value, tuple) or len(value) == 0 or not isinstance(value[0], str):
        return False
    return SIZES.get(value[0]) == len(value)


def draft_behind(board, deeds):
    """Return what becomes of a board by deeds; the board itself is not changed."""
    draft = Draft(board)
    for deed in deeds:
        action = DEEDS[deed[0]]
        action(draft, deed)
    return draft


def check_place(draft, name):
    """Raise InvalidName or TooMany unless a drawing can get the name."""
    if not is_name(name):
        raise InvalidName(name)
    if name not in names_of(draft.drawings) and len(draft.drawings) >= draft.bound:
        raise TooMany(draft.bound)


def put_drawing(draft, name, weave):
    """Enter a new drawing, in the place of the one with its name if there is one."""
    draft.made += 1
    new = (name, draft.made, tuple(weave.counts()))
    if name in names_of(draft.drawings):
        draft.drawings = tuple([new if drawing[0] == name else drawing for drawing in draft.drawings])
    else:
        draft.drawings = (*draft.drawings, new)


def names_of(drawings):
    """Return the list of the names of drawings."""
    return [name for name, key, counts in drawings]


def drawing_of(drawings, name):
    """Return the drawing with a name."""
    for drawing in drawings:
        if drawing[0] == name:
            return drawing
    raise UnknownName(name)


def weave_of(board, name):
    """Return the weave with a name on a board or a draft."""
    drawing = drawing_of(board.drawings, name)
    return Weave(board.ground, drawing[2])


def shown(board):
    """Return the list of the names with their counts."""
    return [(name, counts) for name, key, counts in board.drawings]


def found_behind(sheet, found, flips):
    """Return the threads that are kept, as they are told behind flips of a sheet."""
    for flip in flips:
        found = {key: [(tuple(counts_behind(sheet, counts, flip)), times) for counts, times in found[key]]
                 for key in found}
        sheet = sheet.flipped(flip)
    return found
