"""Closed paths on a sheet, which may cross themselves, and the threads to which they can be shifted."""

from flipthreads.errors import InvalidPath
from flipthreads.sheets import is_line
from flipthreads.values import copied, is_row, least_turn, same_round
from flipthreads.walks import full_round
from flipthreads.weaves import Weave


def check_path(sheet, path):
    """Raise InvalidPath unless the value is a path on a sheet."""
    if not is_row(path):
        raise InvalidPath(0)
    for at, x in enumerate(path):
        if not is_line(sheet.faces, x):
            raise InvalidPath(at)
    for at, x in enumerate(path):
        if -x not in sheet.triangle(path[at - 1]):
            raise InvalidPath(at)


def tight(sheet, path):
    """Return the tight path to which a path can be shifted."""
    check_path(sheet, path)
    return least_turn(pulled(path))


def can_shift(sheet, one, other):
    """Tell whether two paths can be shifted to one another."""
    return tight(sheet, one) == tight(sheet, other)


class Laying:
    """An answer to the question to which thread a path leads; it never changes.

    `ground` is the sheet; `steps` has the items of the path.
    """

    def __init__(self, sheet, path):
        self.ground = sheet
        self.steps = kept_path(path)

    @property
    def sheet(self):
        """The sheet on which the path is."""
        return self.ground

    @property
    def path(self):
        """The items of the path."""
        return copied(self.steps)

    @property
    def possible(self):
        """Whether the path is said to lead to a thread."""
        return False

    def told(self):
        """Return the word for the answer."""
        return "unknown"

    def holds(self):
        """Tell whether the answer is right."""
        return False

    def __bool__(self):
        return False

    def __repr__(self):
        return f"Laying({self.told()})"


class Laid(Laying):
    """The answer that a path can be shifted to a thread, `goal`."""

    def __init__(self, sheet, path, thread):
        super().__init__(sheet, path)
        self.goal = thread

    @property
    def sheet(self):
        """The sheet on which the path is."""
        return self.ground

    @property
    def path(self):
        """The items of the path."""
        return copied(self.steps)

    @property
    def possible(self):
        """Whether the path is said to lead to a thread."""
        return True

    @property
    def thread(self):
        """The thread to which the path leads."""
        return self.goal

    def told(self):
        """Return the word for the answer."""
        return "laid"

    def holds(self):
        """Tell whether the path can be laid and leads to the thread."""
        if not is_path(self.ground, self.steps):
            return False
        thread = thread_along(self.ground, pulled(self.steps))
        return thread is not None and thread == self.goal

    def __bool__(self):
        return True

    def __repr__(self):
        return f"Laying({self.told()})"


class Crossed(Laying):
    """The answer that a path crosses itself, however it is shifted."""

    def __init__(self, sheet, path):
        super().__init__(sheet, path)

    @property
    def sheet(self):
        """The sheet on which the path is."""
        return self.ground

    @property
    def path(self):
        """The items of the path."""
        return copied(self.steps)

    @property
    def possible(self):
        """Whether the path is said to lead to a thread."""
        return False

    def told(self):
        """Return the word for the answer."""
        return "crossed"

    def holds(self):
        """Tell whether the path is not gone and cannot be laid."""
        if not is_path(self.ground, self.steps):
            return False
        left = pulled(self.steps)
        return len(left) > 0 and thread_along(self.ground, left) is None

    def __bool__(self):
        return False

    def __repr__(self):
        return f"Laying({self.told()})"


class Gone(Laying):
    """The answer that a path can be pulled to a point."""

    def __init__(self, sheet, path):
        super().__init__(sheet, path)

    @property
    def sheet(self):
        """The sheet on which the path is."""
        return self.ground

    @property
    def path(self):
        """The items of the path."""
        return copied(self.steps)

    @property
    def possible(self):
        """Whether the path is said to lead to a thread."""
        return False

    def told(self):
        """Return the word for the answer."""
        return "gone"

    def holds(self):
        """Tell whether the path is gone."""
        return is_path(self.ground, self.steps) and len(pulled(self.steps)) == 0

    def __bool__(self):
        return False

    def __repr__(self):
        return f"Laying({self.told()})"


def lay(sheet, path):
    """Return the right answer for a path: a Laid, Crossed or Gone."""
    left = tight(sheet, path)
    if len(left) == 0:
        return Gone(sheet, path)
    thread = thread_along(sheet, left)
    if thread is None:
        return Crossed(sheet, path)
    return Laid(sheet, path, thread)


def kept_path(path):
    """Return a path as an answer keeps it: the tuple of its items; what is no list stays as it is."""
    if is_row(path):
        return tuple(copied(path))
    return path


def is_path(sheet, path):
    """Tell whether any value is a path on a sheet."""
    try:
        check_path(sheet, path)
    except InvalidPath:
        return False
    return True


def pulled(path):
    """Return the list of the items that are left of a path when it turns back nowhere any more."""
    left = []
    for x in path:
        if len(left) > 0 and left[-1] == -x:
            left.pop()
        else:
            left.append(x)
    cut = 0
    while len(left) > 2 * cut and left[cut] == -left[-1 - cut]:
        cut += 1
    return left[cut:len(left) - cut]


def thread_along(sheet, left):
    """Return the thread that goes along a path which turns back nowhere, or None if the path cannot be laid."""
    counts = [0] * sheet.lines
    for x in left:
        counts[abs(x) - 1] += 1
    weave = Weave(sheet, counts)
    # An empty path has no thread: without this, it would go around like the walk over no crossings.
    if len(left) > 0 and same_round(left, full_round(weave)):
        return weave
    return None
