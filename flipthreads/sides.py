"""On which side of threads the nails lie."""

from flipthreads.errors import NotThread
from flipthreads.loops import check_nail
from flipthreads.splits import is_thread, split


def sides(thread):
    """Return the pair of the lists of the nails on both sides of a thread, the one with nail 0 first."""
    if not is_thread(thread):
        raise NotThread()
    return two_sides(thread)


def is_ring(weave):
    """Tell whether a weave is a single thread with one nail alone on one of its sides."""
    return is_thread(weave) and 1 in [len(side) for side in two_sides(weave)]


def parting(weave, one, other):
    """Return how many threads of a weave part two nails."""
    check_nail(weave.sheet, one)
    check_nail(weave.sheet, other)
    many = 0
    for thread, times in split(weave):
        near = two_sides(thread)[0]
        if (one in near) != (other in near):
            many += times
    return many


def rooms(weave):
    """Return the ascending list of the lists of nails that no thread parts from one another."""
    nears = [two_sides(thread)[0] for thread, times in split(weave)]
    found = {}
    for nail in range(weave.sheet.nails):
        place = tuple([nail in near for near in nears])
        found[place] = found.get(place, []) + [nail]
    # The rooms were found in the order of their least nails: so they are ascending.
    return list(found.values())


def two_sides(thread):
    """Return the pair of the lists of the nails on both sides of what is known to be one thread.

    A line leads to the same side if the thread crosses it an even number of times; from nail 0 lines lead to all nails.
    """
    far = {0: False}
    while len(far) < thread.sheet.nails:
        for line, many in enumerate(thread.counts(), start=1):
            begin, end = thread.sheet.ends(line)
            crosses = many % 2 == 1
            if begin in far:
                far[end] = far[begin] != crosses
            elif end in far:
                far[begin] = far[end] != crosses
    nails = sorted(far)
    return ([nail for nail in nails if not far[nail]], [nail for nail in nails if far[nail]])
