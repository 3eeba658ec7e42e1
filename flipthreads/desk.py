"""A desk, which answers lines about a board."""

from flipthreads.errors import Missing, NothingLeft, ThreadError
from flipthreads.meetings import meet
from flipthreads.sides import rooms
from flipthreads.values import read_number, read_row, row_text

DONE = "done"
NONE = "none"
UNKNOWN = "unknown"


def say_draw(board, words):
    """Draw the counts in a line."""
    counts = read_row(words[2])
    if counts is None:
        return UNKNOWN
    board.apply(("draw", words[1], counts))
    return DONE


def say_lay(board, words):
    """Lay the path in a line."""
    path = [] if words[2] == "-" else read_row(words[2])
    if path is None:
        return UNKNOWN
    board.apply(("lay", words[1], path))
    return DONE


def say_flip(board, words):
    """Flip the line in a line."""
    flip = read_number(words[1])
    if flip is None:
        return UNKNOWN
    board.apply(("flip", flip))
    return DONE


def say_named(board, words):
    """Do a deed that has names alone."""
    board.apply(tuple(words))
    return DONE


def say_undo(board, words):
    """Take the last step back."""
    board.undo()
    return DONE


def say_redo(board, words):
    """Make a step again."""
    board.redo()
    return DONE


def tell_names(board, words):
    """Tell the names in order."""
    return " ".join(board.names()) if len(board) > 0 else NONE


def tell_counts(board, words):
    """Tell the counts of a drawing."""
    return row_text(board.weave(words[1]).counts())


def tell_total(board, words):
    """Tell the sum of the counts of a drawing."""
    return str(board.weave(words[1]).total)


def tell_threads(board, words):
    """Tell the threads of a drawing, which the board then keeps."""
    told = [f"{times}x{row_text(thread.counts())}" for thread, times in board.threads_of(words[1])]
    return " ".join(told) if len(told) > 0 else NONE


def tell_rooms(board, words):
    """Tell which nails no thread of a drawing parts."""
    return " ".join([row_text(room) for room in rooms(board.weave(words[1]))])


def tell_apart(board, words):
    """Tell whether two drawings can be laid apart."""
    return "yes" if meet(board.weave(words[1]), board.weave(words[2])).apart else "no"


ANSWERS = {
    "draw": say_draw, "lay": say_lay, "join": say_named, "flip": say_flip, "drop": say_named, "rename": say_named,
    "undo": say_undo, "redo": say_redo, "names": tell_names, "show": tell_counts, "total": tell_total,
    "threads": tell_threads, "rooms": tell_rooms, "apart": tell_apart,
}
SIZES = {
    "draw": 3, "lay": 3, "join": 4, "flip": 2, "drop": 2, "rename": 3, "undo": 1, "redo": 1, "names": 1, "show": 2,
    "total": 2, "threads": 2, "rooms": 2, "apart": 3,
}


class Desk:
    """A desk with a board, `table`; `said` has the pairs of the lines and their answers."""

    def __init__(self, board):
        self.table = board
        self.said = []

    def say(self, line):
        """Return the answer to a line."""
        answer = answer_to(self.table, line)
        self.said.append((line, answer))
        return answer

    def __call__(self, line):
        return self.say(line)

    @property
    def board(self):
        """The board itself."""
        return self.table

    def log(self):
        """Return the list of the pairs (line, answer)."""
        return list(self.said)

    def __len__(self):
        return len(self.said)

    def __repr__(self):
        return f"Desk({len(self.said)} lines)"


def answer_to(board, line):
    """Return the answer of a board to a line."""
    words = line.split(" ")
    if "" in words or SIZES.get(words[0]) != len(words):
        return UNKNOWN
    action = ANSWERS[words[0]]
    try:
        return action(board, words)
    except (ThreadError, Missing, NothingLeft) as error:
        return f"error {error.code}"
