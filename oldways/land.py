"""Hands, and land: a line of cells, with what is settled of it."""

from oldways.errors import NoLand
from oldways.stretches import both, is_stretch
from oldways.things import is_whole

MOST_CELLS = 10 ** 30
MOST_DAYS = 10 ** 12
MOST_ROADS = 8
MOST_LETTERS = 8


def is_hand(thing):
    """Whether any thing is a hand."""
    if not isinstance(thing, str) or not 1 <= len(thing) <= MOST_LETTERS:
        return False
    return all(["a" <= sign <= "z" for sign in thing])


class Land:
    """A line of cells, its first hand, the days of growing and lapsing, its roads."""

    def __init__(self, cells, hand, *, grow=20, lapse=20, roads=()):
        if not _is_amount(cells, MOST_CELLS):
            raise NoLand("cells")
        if not is_hand(hand):
            raise NoLand("hand")
        if not _is_amount(grow, MOST_DAYS):
            raise NoLand("grow")
        if not _is_amount(lapse, MOST_DAYS):
            raise NoLand("lapse")
        if not _are_roads(roads, cells):
            raise NoLand("roads")
        self._cells = cells
        self._hand = hand
        self._grow = grow
        self._lapse = lapse
        self._roads = roads

    def cells(self):
        """How many cells the land has."""
        return self._cells

    def hand(self):
        """The first hand."""
        return self._hand

    def grow(self):
        """The days of use behind which a way arises."""
        return self._grow

    def lapse(self):
        """The days without use behind which a way lapses."""
        return self._lapse

    def roads(self):
        """The stretches that are roads, a tuple in least form."""
        return self._roads

    def __eq__(self, other):
        return (
            isinstance(other, Land)
            and self._cells == other._cells
            and self._hand == other._hand
            and self._grow == other._grow
            and self._lapse == other._lapse
            and self._roads == other._roads
        )

    def __repr__(self):
        return f"Land({self._cells} cells of {self._hand})"


def _is_amount(thing, most):
    """Whether any thing is a whole number from 1 to the most."""
    return is_whole(thing) and 1 <= thing <= most


def _are_roads(thing, cells):
    """Whether any thing is the roads of a land with so many cells."""
    if not isinstance(thing, tuple) or len(thing) > MOST_ROADS:
        return False
    if not all([is_stretch(road) for road in thing]):
        return False
    roads = list(thing)
    # Only roads that lie in the land and are in least form stay as they are.
    return both(roads, [(0, cells)]) == roads
