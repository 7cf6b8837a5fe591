"""Books: the deeds of a land that were told, and those that were taken back."""

from oldways.deeds import is_deed, look_deed
from oldways.errors import TooMany, Unlike
from oldways.histories import Histories
from oldways.land import Land
from oldways.texts import show_deed

MOST_DEEDS = 30


class Book:
    """Deeds that were told and deeds that were taken back, in whatever order."""

    def __init__(self, land, told=(), *, back=()):
        for deed in [*told, *back]:
            look_deed(land, deed)
        _look_room([*told, *back])
        self._land = _like(land)
        self._told = {deed: True for deed in told}
        self._back = {deed: True for deed in back}
        self._histories = None

    def tell(self, deed):
        """Tells a deed: True where other deeds stand than ahead, else False."""
        self._look(deed)
        is_new = deed not in self._told and deed not in self._back
        self._told[deed] = True
        if is_new:
            self._histories = None
        return is_new

    def take_back(self, deed):
        """Takes a deed back: True where other deeds stand than ahead, else False."""
        self._look(deed)
        stood = self.stands(deed)
        self._back[deed] = True
        if stood:
            self._histories = None
        return stood

    def told(self):
        """The deeds that were told, in order."""
        return sorted(self._told)

    def back(self):
        """The deeds that were taken back, in order."""
        return sorted(self._back)

    def deeds(self):
        """The deeds that stand, in order."""
        return sorted([deed for deed in self._told if deed not in self._back])

    def stands(self, thing):
        """Whether any thing is a deed that stands."""
        # Python takes 1 and True for alike: a thing is looked at ahead of seeking it.
        return is_deed(self._land, thing) and thing in self._told and thing not in self._back

    def land(self):
        """The land that the deeds are of."""
        return _like(self._land)

    def histories(self):
        """The histories of all pairs by the deeds that stand, kept for as long as these stand."""
        if self._histories is None:
            self._histories = Histories(self._land, self.deeds())
        return self._histories

    def merged(self, other):
        """A book of what was told, and taken back, in one of two books or in both."""
        if not self._land == other.land():
            raise Unlike()
        return Book(self._land, self.told() + other.told(), back=self.back() + other.back())

    def copy(self):
        """A like book."""
        return Book(self._land, self.told(), back=self.back())

    def _look(self, thing):
        """Refuses any thing that is no deed of the land, and a deed too many."""
        look_deed(self._land, thing)
        _look_room([*self._told, *self._back, thing])

    def __eq__(self, other):
        return (
            isinstance(other, Book)
            and self._land == other._land
            and self._told == other._told
            and self._back == other._back
        )

    def __len__(self):
        return len(self.deeds())

    def __str__(self):
        return "\n".join([show_deed(deed) for deed in self.deeds()])

    def __repr__(self):
        return f"Book({len(self)} of {len(self._told)})"


def _like(land):
    """A like land, so that none is kept or shared."""
    return Land(land.cells(), land.hand(), grow=land.grow(), lapse=land.lapse(), roads=land.roads())


def _look_room(deeds):
    """Refuses more unlike deeds than a book takes."""
    if len(set(deeds)) > MOST_DEEDS:
        raise TooMany(MOST_DEEDS)
