"""Texts of sheets and pages of boards, written and read."""

from flipthreads.boards import Board
from flipthreads.errors import InvalidCounts, InvalidName, InvalidOrder, InvalidPage, InvalidSheet, InvalidText
from flipthreads.errors import InvalidTriangle, Misfit, TooMany
from flipthreads.sheets import Sheet
from flipthreads.values import read_row, row_text


def sheet_text(sheet):
    """Return the text of a sheet."""
    triangles = ";".join([row_text(triangle) for triangle in sheet.triangles()])
    return f"{triangles} {row_text(sheet.order())}"


def read_sheet(text):
    """Return the sheet with a text."""
    triangles, space, order = text.partition(" ")
    rows = [read_row(part) for part in triangles.split(";")]
    if None in rows:
        raise InvalidText()
    try:
        sheet = Sheet([tuple(row) for row in rows], order=read_row(order))
    except (InvalidSheet, InvalidTriangle, InvalidOrder):
        raise InvalidText() from None
    # A sheet has one text alone: triangles in another order, or begun elsewhere, are none.
    if sheet_text(sheet) != text:
        raise InvalidText()
    return sheet


def page(board):
    """Return the page of a board."""
    lines = [f"{name} = {row_text(board.weave(name).counts())}" for name in board.names()]
    return "\n".join([f"sheet {sheet_text(board.sheet)}", *lines, ""])


def read_page(text):
    """Return the board with a page."""
    lines = text.split("\n")
    board = Board(sheet_in(lines[0]), limit=Board.MOST)
    for at, line in enumerate(lines[1:-1], start=1):
        add_drawing(board, line, at)
    # What follows the last line feed is a line that does not end.
    if lines[-1] != "":
        raise InvalidPage(len(lines) - 1)
    board.forget_steps()
    return board


def sheet_in(line):
    """Return the sheet in the first line of a page."""
    word, space, text = line.partition(" ")
    if word != "sheet":
        raise InvalidPage(0)
    try:
        return read_sheet(text)
    except InvalidText:
        raise InvalidPage(0) from None


def add_drawing(board, line, at):
    """Add the drawing in a line of a page to a board."""
    name, sign, text = line.partition(" = ")
    if name in board:
        raise InvalidPage(at)
    try:
        board.apply(("draw", name, read_row(text)))
    except (InvalidName, TooMany, InvalidCounts, Misfit):
        raise InvalidPage(at) from None
