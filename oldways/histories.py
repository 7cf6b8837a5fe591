"""The histories of all pairs of a land's cells, each made when it is first asked for."""

from oldways.checks import look_cell
from oldways.hands import chain_of
from oldways.history import History
from oldways.stretches import meet
from oldways.strips import Strips

# Of how many pairs it is known at once which history they have.
MOST_PAIRS = 1000


class Histories:
    """The histories of all pairs by a list of deeds.

    Which deeds tell of a cell is told by its marks, a bit for each deed: as x
    by those that sell it or lead from it, as y by those that sell it or lead
    over it. Pairs with the same marks have one history.
    """

    def __init__(self, land, deeds):
        self._land = land
        self._deeds = deeds
        self._froms = Strips(land.cells(), [deed[2] if deed[0] == "sale" else deed[3] for deed in deeds])
        self._overs = Strips(land.cells(), [deed[2] if deed[0] == "sale" else deed[4] for deed in deeds])
        # Marks of all sales, and of all other deeds.
        self._sales = sum([1 << number for number, deed in enumerate(deeds) if deed[0] == "sale"])
        self._others = (1 << len(deeds)) - 1 - self._sales
        self._pairs = {}
        self._chains = {}
        self._made = {}
        self._boxes = None

    def land(self):
        """The land that the pairs lie in."""
        return self._land

    def froms(self):
        """The strips of cells as x."""
        return self._froms

    def overs(self):
        """The strips of cells as y."""
        return self._overs

    def of(self, x, y):
        """The history of a pair."""
        pair = (x, y)
        if pair not in self._pairs:
            if len(self._pairs) == MOST_PAIRS:
                self._pairs = {}
            self._pairs[pair] = self._by_marks(self._froms.marks(x), self._overs.marks(y))
        return self._pairs[pair]

    def turns(self, x_marks, y_marks):
        """The days on which pairs with these marks turn."""
        return self._by_marks(x_marks, y_marks).turns() if self._may_turn(x_marks, y_marks) else []

    def boxes(self):
        """Tuples (stretch of x, stretch of y, history); of other pairs the stand is always ("none", 0)."""
        if self._boxes is None:
            overs = self._overs.marked()
            self._boxes = [
                (x_stretch, y_stretch, self._by_marks(x_marks, y_marks))
                for x_stretch, x_marks in self._froms.marked()
                for y_stretch, y_marks in overs
                if self._may_turn(x_marks, y_marks)
            ]
        return self._boxes

    def within(self, froms, overs):
        """The histories of those pairs of a box that don't always stand as ("none", 0), each once."""
        found = {}
        for x_stretch, y_stretch, history in self.boxes():
            if meet(x_stretch, froms) and meet(y_stretch, overs):
                found[history] = True
        return list(found)

    def along(self, x, first, end):
        """The histories of x with the cells from the first up to the end, one for each strip of them."""
        return [self.of(x, y) for y in self._overs.samples(first, end)]

    def _may_turn(self, x_marks, y_marks):
        """Whether pairs with these marks may ever stand as anything but ("none", 0)."""
        # Without any deed about it a pair is never a way, and cells with the same sales are always in one hand.
        return x_marks & y_marks & self._others != 0 and (x_marks ^ y_marks) & self._sales != 0

    def _by_marks(self, x_marks, y_marks):
        """The history of pairs with these marks."""
        key = (x_marks & y_marks & self._others, x_marks & self._sales, y_marks & self._sales)
        if key not in self._made:
            about, x_sales, y_sales = key
            x_chain = self._chain(x_sales)
            y_chain = self._chain(y_sales)
            self._made[key] = History(self._land, x_chain, y_chain, self._marked(about))
        return self._made[key]

    def _chain(self, sales):
        """The chain of cells with these marks of sales."""
        if sales not in self._chains:
            self._chains[sales] = chain_of(self._land, self._marked(sales))
        return self._chains[sales]

    def _marked(self, marks):
        """The deeds that are marked, in order."""
        return [deed for number, deed in enumerate(self._deeds) if marks >> number & 1]


def pair_history(book, x, y):
    """The history of a pair by a book; refuses what are no two cells."""
    histories = book.histories()
    land = histories.land()
    look_cell(land, x)
    look_cell(land, y)
    return histories.of(x, y)
