"""Deeds: what is told of a land, as tuples."""

from oldways.errors import NoDeed
from oldways.land import is_hand
from oldways.stretches import is_stretch
from oldways.things import is_whole

LAST_DAY = 10 ** 30

# What the parts behind the first one are, by the first one. Deeds are written
# in this order, too.
PARTS = {
    "sale": ("day", "stretch", "hand"),
    "grant": ("day", "hand", "stretch", "stretch"),
    "end": ("day", "hand", "stretch", "stretch"),
    "use": ("day", "last", "stretch", "stretch", "leave"),
}


def look_deed(land, thing):
    """Refuses any thing that is no deed of the land."""
    number = _wrong_part(land, thing)
    if number is not None:
        raise NoDeed(number)


def is_deed(land, thing):
    """Whether any thing is a deed of the land."""
    return _wrong_part(land, thing) is None


def parts_of(word):
    """What the parts behind the first one are of deeds that begin so, () of no such deed."""
    return PARTS.get(word, ())


def is_day(thing):
    """Whether any thing is a day as it may stand in a deed."""
    return is_whole(thing) and 0 <= thing <= LAST_DAY


def _wrong_part(land, thing):
    """The number of a thing's first part that is no deed's, None of a deed."""
    if not isinstance(thing, tuple) or not thing or not isinstance(thing[0], str):
        return 0
    parts = parts_of(thing[0])
    if not parts or len(thing) != 1 + len(parts):
        return 0
    for number, part in enumerate(parts, start=1):
        if not _is_part(land, part, thing[number], thing[number - 1]):
            return number
    return None


def _is_part(land, part, thing, ahead):
    """Whether any thing is such a part; ahead of it stands a part that is right."""
    if part == "stretch":
        return is_stretch(thing) and thing[0] + thing[1] <= land.cells()
    if part == "day":
        return is_day(thing)
    if part == "last":
        return is_day(thing) and ahead <= thing
    if part == "hand":
        return is_hand(thing)
    return isinstance(thing, bool)
