"""Splits of weaves into single threads."""

from flipthreads.walks import check_total, full_round, walk
from flipthreads.weaves import Weave


def split(weave):
    """Return the list of the pairs (thread, times) of a weave, ascending by the counts of the threads."""
    check_total(weave)
    times = {}
    for counts in traces(weave):
        times[counts] = times.get(counts, 0) + 1
    return [(Weave(weave.sheet, counts), times[counts]) for counts in sorted(times)]


def threads(weave):
    """Yield the threads of a weave, each as often as it occurs."""
    for thread, times in split(weave):
        for each in range(times):
            yield thread


def is_thread(weave):
    """Tell whether a weave has one thread alone, once."""
    check_total(weave)
    return len(full_round(weave)) > 0


def traces(weave):
    """Return the list of the counts of the threads, as tuples, one for each time that a thread occurs."""
    found = []
    met = {}
    for line, many in enumerate(weave.counts(), start=1):
        for at in range(many):
            if (line, at) not in met:
                found.append(trace(weave, line, at, met))
    return found


def trace(weave, line, at, met):
    """Return the counts of the thread at a crossing, and enter all its crossings among those that were met."""
    counts = [0] * weave.sheet.lines
    for x, p in walk(weave, line, at):
        counts[abs(x) - 1] += 1
        met[crossing_ahead(weave, x, p)] = True
    return tuple(counts)


def crossing_ahead(weave, line, at):
    """Return a crossing as it is numbered in the direction of its line, in whichever direction it is given."""
    if line > 0:
        return (line, at)
    return (-line, weave.crossings(line) - 1 - at)
