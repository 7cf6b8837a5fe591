"""The land's cells, parted into strips: those of one strip lie in the same stretches."""

from oldways.stretches import edges, pieces_between


class Strips:
    """Strips by a list of stretches.

    The marks of a cell are a number with a bit for each of the stretches in
    which it lies, the lowest bit being the first one's.
    """

    def __init__(self, cells, stretches):
        self._cells = cells
        self._stretches = stretches

    def bounds(self):
        """The first cell of each strip, rising, and the one behind all cells."""
        return edges([(0, self._cells), *self._stretches])

    def marks(self, cell):
        """The marks of a cell."""
        marks = 0
        bit = 1
        for first, many in self._stretches:
            if first <= cell < first + many:
                marks += bit
            bit += bit
        return marks

    def marked(self):
        """All strips, in order: tuples (stretch, marks)."""
        return [(piece, self.marks(piece[0])) for piece in pieces_between(self.bounds())]

    def samples(self, first, end):
        """A cell of each strip that has one among those from the first up to the end, rising."""
        if first >= end:
            return []
        return [first] + [bound for bound in self.bounds() if first < bound < end]


def shared_strips(one, other):
    """The strips by the stretches of both: tuples (stretch, marks of the one, marks of the other)."""
    bounds = sorted(set(one.bounds() + other.bounds()))
    return [(piece, one.marks(piece[0]), other.marks(piece[0])) for piece in pieces_between(bounds)]
