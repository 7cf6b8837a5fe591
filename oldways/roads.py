"""From which cells one comes to a road, and when."""

from oldways.checks import look_cell, look_day
from oldways.stretches import edges, least, lies_in, pieces_between


def open_cells(book, day):
    """All cells that are open on a day, in least form."""
    look_day(day)
    histories = book.histories()
    roads = histories.land().roads()
    bounds = edges([*pieces_between(histories.froms().bounds()), *roads])
    # All cells between two bounds are one hand's, and have ways over the same others.
    return least([piece for piece in pieces_between(bounds) if _is_open(histories, piece[0], day)])


def opens(book, cell, *, since):
    """The first day from a told one on on which a cell is open, None where it never is."""
    histories = _histories(book, cell, since)
    days = [_first_open(side, since) for side in _sides(histories, cell)]
    return min([day for day in days if day is not None], default=None)


def opens_by_use(book, cell, *, since):
    """The first day from a told one on on which a cell is open if behind that it alone uses all others, or None."""
    histories = _histories(book, cell, since)
    grow = histories.land().grow()
    days = []
    for side in _sides(histories, cell):
        days.append(since + max([_days_to_grow(history, since, grow) for history in side], default=0))
    return min(days, default=None)


def is_open(book, cell, day):
    """Whether a cell is open on a day."""
    return _is_open(_histories(book, cell, day), cell, day)


def _histories(book, cell, day):
    """The histories of all pairs by a book; refuses what is no cell, or no day."""
    histories = book.histories()
    look_cell(histories.land(), cell)
    look_day(day)
    return histories


def _sides(histories, cell):
    """For each side on which there is a road: the histories of a cell with those between it and the road.

    A road has one side without any between.
    """
    roads = histories.land().roads()
    if any([lies_in(cell, road) for road in roads]):
        return [[]]
    sides = []
    left = [first + many for first, many in roads if first < cell]
    if left:
        sides.append(histories.along(cell, max(left), cell))
    right = [first for first, _ in roads if first > cell]
    if right:
        sides.append(histories.along(cell, cell + 1, min(right)))
    return sides


def _is_open(histories, cell, day):
    """Whether a cell is open on a day."""
    return any([_is_free(side, day) for side in _sides(histories, cell)])


def _is_free(side, day):
    """Whether one may go over all cells of a side on a day."""
    return all([_is_passable(history, day) for history in side])


def _is_passable(history, day):
    """Whether both cells are in one hand on a day, or there is a way."""
    one_hand = history.seen_on(day)[0]
    return one_hand or history.is_way(day)


def _first_open(side, since):
    """The first day from a told one on on which one may go over all cells of a side, or None."""
    days = [since]
    for history in side:
        # Only on such a day one may go over where one might not on the day ahead.
        days += [day for day in history.starts() + history.turns() if day > since]
    for day in sorted(set(days)):
        if _is_free(side, day):
            return day
    return None


def _days_to_grow(history, day, grow):
    """How many days behind a day, each of use, one may go over a cell."""
    if _is_passable(history, day):
        return 0
    _, used = history.stand_on(day)
    return grow - used
