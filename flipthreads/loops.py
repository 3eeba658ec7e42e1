"""The threads around one nail, and around one line."""

from flipthreads.errors import EndsMeet, InvalidNail
from flipthreads.values import is_number
from flipthreads.weaves import Weave


def ring(sheet, nail):
    """Return the thread around a nail."""
    check_nail(sheet, nail)
    return Weave(sheet, ends_at(sheet, nail))


def loop(sheet, line):
    """Return the thread around a line and the two nails at its ends."""
    begin, end = sheet.ends(line)
    if begin == end:
        raise EndsMeet(line)
    counts = [one + other for one, other in zip(ends_at(sheet, begin), ends_at(sheet, end))]
    counts[abs(line) - 1] = 0
    return Weave(sheet, counts)


def check_nail(sheet, nail):
    """Raise InvalidNail unless the value is the number of a nail."""
    if not is_number(nail) or nail < 0 or nail >= sheet.nails:
        raise InvalidNail(nail)


def ends_at(sheet, nail):
    """Return the list of how many ends of each line are at a nail."""
    return [sheet.ends(line).count(nail) for line in range(1, sheet.lines + 1)]
