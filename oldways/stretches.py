"""Stretches of cells: tuples (first, many).

All here goes by where stretches begin and end, never cell by cell: a stretch
may have far more cells than could be counted.
"""

from itertools import pairwise

from oldways.things import is_whole


def is_stretch(thing):
    """Whether any thing is a stretch."""
    if not isinstance(thing, tuple) or len(thing) != 2:
        return False
    first, many = thing
    return is_whole(first) and first >= 0 and is_whole(many) and many >= 1


def least(stretches):
    """The cells that lie in some of the stretches, in least form."""
    runs = []
    for first, many in sorted(stretches):
        # One that only touches the last run is joined to it, too.
        if runs and first <= runs[-1][1]:
            runs[-1][1] = max(runs[-1][1], first + many)
        else:
            runs.append([first, first + many])
    return [(first, end - first) for first, end in runs]


def both(one, other):
    """The cells that lie in both lists of stretches, in least form."""
    left = least(one)
    right = least(other)
    shared = []
    at = 0
    by = 0
    while at < len(left) and by < len(right):
        first = max(left[at][0], right[by][0])
        left_end = _end(left[at])
        right_end = _end(right[by])
        end = min(left_end, right_end)
        if first < end:
            shared.append((first, end - first))
        # The one that ends first can meet nothing further.
        if left_end < right_end:
            at += 1
        else:
            by += 1
    return shared


def less(one, other):
    """The cells of the one list of stretches that aren't of the other, in least form."""
    ends = [_end(stretch) for stretch in one]
    return both(one, _gaps(other, max(ends, default=0)))


def lies_in(cell, stretch):
    """Whether a cell lies in a stretch."""
    first, many = stretch
    return first <= cell < first + many


def meet(one, other):
    """Whether two stretches share a cell."""
    return one[0] < _end(other) and other[0] < _end(one)


def edges(stretches):
    """The cells with which a stretch begins, or behind which one ends, each once, rising."""
    return sorted(set([first for first, _ in stretches] + [_end(stretch) for stretch in stretches]))


def pieces_between(bounds):
    """The stretches from each of rising cells up to the next one."""
    return [(first, end - first) for first, end in pairwise(bounds)]


def joined(pieces):
    """Tuples (stretch, worth), as few as can be, of such in order, none over another one."""
    runs = []
    for (first, many), worth in pieces:
        if runs and runs[-1][1] == first and runs[-1][2] == worth:
            runs[-1][1] = first + many
        else:
            runs.append([first, first + many, worth])
    return [((first, end - first), worth) for first, end, worth in runs]


def _end(stretch):
    """The first cell behind a stretch."""
    first, many = stretch
    return first + many


def _gaps(stretches, end):
    """Stretches with all cells below the end that lie in none of the stretches."""
    gaps = []
    begin = 0
    for first, many in least(stretches):
        if begin < first:
            gaps.append((begin, first - begin))
        begin = first + many
    if begin < end:
        gaps.append((begin, end - begin))
    return gaps
