"""Sheets: values for some pairs of cells, told in one form."""

from oldways.stretches import edges, joined, lies_in, pieces_between


class Sheet:
    """A value for each of some pairs of cells."""

    def __init__(self, rows):
        self._rows = _formed(rows)

    def rows(self):
        """The rows in their one form: tuples (stretch, parts), parts of tuples (stretch, value)."""
        return list(self._rows)

    def at(self, x, y):
        """The value of a pair, None where there is none."""
        for froms, parts in self._rows:
            if lies_in(x, froms):
                for overs, value in parts:
                    if lies_in(y, overs):
                        return value
        return None

    def area(self):
        """How many pairs have a value."""
        return sum([many * _cells_of(parts) for (_, many), parts in self._rows])

    def __eq__(self, other):
        return isinstance(other, Sheet) and self._rows == other._rows

    def __len__(self):
        return len([part for _, parts in self._rows for part in parts])


def _cells_of(parts):
    """How many cells there are in all parts."""
    return sum([many for (_, many), _ in parts])


def _formed(boxes):
    """The one form of tuples (stretch, stretch, value), no pair in two of them."""
    ends = edges([froms for froms, _, _ in boxes])
    strips = {first: [] for first in ends}
    numbers = {first: number for number, first in enumerate(ends)}
    for (first, many), overs, value in boxes:
        for begin in ends[numbers[first]:numbers[first + many]]:
            strips[begin].append((overs, value))
    pieces = []
    for piece in pieces_between(ends):
        parts = _parts(strips[piece[0]])
        if parts:
            pieces.append((piece, parts))
    return joined(pieces)


def _parts(strip):
    """A tuple of as few tuples (stretch, value) as can be, in order."""
    # By the stretches alone: two values need have no order, and no two stretches are alike.
    return tuple(joined(sorted(strip, key=lambda part: part[0])))
