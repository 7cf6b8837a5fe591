"""Everything that a book can be asked, by name, to compare books by all they tell."""

from oldways.freed import free_by, freed, is_freed
from oldways.hands import chain, hand_at, held, holdings
from oldways.kept import barred, kept
from oldways.looker import is_title, is_want
from oldways.maps import all_spans, changes, counts, parted, quiet, stands, ways
from oldways.pairs import next_change, seen, spans, stand
from oldways.roads import open_cells, opens, opens_by_use
from oldways.titles import needful, title, want


def holder(book, day):
    """The hand of the first cell on a day."""
    return holdings(book, day)[0][1]


def whole(book):
    """The stretch of all cells."""
    return (0, book.land().cells())


# Of a book alone.
OF_BOOK = {
    "all_spans": lambda book: all_spans(book).rows(),
    "quiet": quiet,
    "changes": lambda book: changes(book.copy(), book).rows(),
    "parted": lambda book: parted(book.copy(), book),
}
# Of a book and a day.
OF_DAY = {
    "holdings": holdings,
    "held": lambda book, day: held(book, "bob", day),
    "ways": lambda book, day: ways(book, day).rows(),
    "stands": lambda book, day: stands(book, day).rows(),
    "counts": counts,
    "freed": freed,
    "is_freed": lambda book, day: is_freed(book, day, freed(book, day)),
    "free_by": lambda book, day: free_by(book, holder(book, day), day),
    "kept": lambda book, day: kept(book, whole(book), whole(book), day, until=day + 9),
    "barred": lambda book, day: barred(book, whole(book), whole(book), day, until=day + 9),
    "open_cells": open_cells,
}
# Of a book, a cell and a day.
OF_CELL = {
    "hand_at": hand_at,
    "chain": lambda book, cell, day: chain(book, cell),
    "opens": lambda book, cell, day: opens(book, cell, since=day),
    "opens_by_use": lambda book, cell, day: opens_by_use(book, cell, since=day),
}
# Of a book, two cells and a day.
OF_PAIR = {
    "seen": seen,
    "stand": stand,
    "spans": lambda book, x, y, day: spans(book, x, y),
    "next_change": next_change,
    "title": title,
    "needful": needful,
    "want": want,
    "is_title": lambda book, x, y, day: is_title(book, x, y, day, title(book, x, y, day)),
    "is_want": lambda book, x, y, day: is_want(book, x, y, day, want(book, x, y, day)),
}


def answers(book, days=(0, 2, 5, 9, 14), cells=(0, 1, 3)):
    """All that a book tells of some days and cells."""
    told = {(name,): ask(book) for name, ask in OF_BOOK.items()}
    for day in days:
        told.update({(name, day): ask(book, day) for name, ask in OF_DAY.items()})
        for x in cells:
            told.update({(name, x, day): ask(book, x, day) for name, ask in OF_CELL.items()})
            for y in cells:
                told.update({(name, x, y, day): ask(book, x, y, day) for name, ask in OF_PAIR.items()})
    return told


def spoil(thing):
    """Changes each list and dict within a thing."""
    if isinstance(thing, (list, tuple)):
        for part in thing:
            spoil(part)
    if isinstance(thing, dict):
        for part in list(thing.values()):
            spoil(part)
        thing["spoilt"] = None
        for key in list(thing):
            thing[key] = None
    if isinstance(thing, list):
        thing[:] = [None, *thing[::-1], "spoilt"]
