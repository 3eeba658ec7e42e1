"""Walks along the threads of a weave, from triangle to triangle."""

from flipthreads.errors import InvalidPosition, NotThread, TooGreat
from flipthreads.values import is_number, least_turn

MOST_CROSSINGS = 5000


def walk(weave, line, at):
    """Yield the pairs (signed line, crossing) over which a thread comes into triangles, once around."""
    check_position(weave, line, at)
    check_total(weave)
    for here in once_around(weave, (line, at)):
        yield here


def word(thread):
    """Return the least word of a thread."""
    check_total(thread)
    there = full_round(thread)
    if len(there) == 0:
        raise NotThread()
    back = [-line for line in there[::-1]]
    return min(least_turn(there), least_turn(back))


def check_position(weave, line, at):
    """Raise InvalidLine or InvalidPosition unless the signed line has such a crossing."""
    many = weave.crossings(line)
    if not is_number(at) or at < 0 or at >= many:
        raise InvalidPosition(at)


def check_total(weave):
    """Raise TooGreat if a weave has more crossings than are walked over."""
    if weave.total > MOST_CROSSINGS:
        raise TooGreat(MOST_CROSSINGS)


def step(weave, here):
    """Return the pair over which a thread comes into the next triangle."""
    x, p = here
    y, z = weave.sheet.triangle(x)[1:]
    if p < weave.arcs(x):
        return (-z, p)
    return (-y, p + weave.crossings(y) - weave.crossings(x))


def once_around(weave, begin):
    """Return the list of the pairs of a walk, begun with a given one."""
    met = [begin]
    here = step(weave, begin)
    while here != begin:
        met.append(here)
        here = step(weave, here)
    return met


def full_round(weave):
    """Return the signed lines of a walk over all crossings of a weave, however many there are.

    The list is empty unless the weave has one thread alone: otherwise any walk leaves crossings out.
    """
    for first, many in enumerate(weave.counts(), start=1):
        if many > 0:
            lines = [line for line, at in once_around(weave, (first, 0))]
            return lines if len(lines) == weave.total else []
    return []
