"""What is refused of any thing that is handed in as a cell or as a day."""

from oldways.errors import NoCell, NoDay
from oldways.things import is_whole


def is_cell(land, thing):
    """Whether any thing is a cell of the land."""
    return is_whole(thing) and 0 <= thing < land.cells()


def look_cell(land, thing):
    """Refuses any thing that is no cell of the land."""
    if not is_cell(land, thing):
        raise NoCell(thing)


def look_day(thing):
    """Refuses any thing that is no whole number from 0 on."""
    if not is_whole(thing) or thing < 0:
        raise NoDay(thing)
