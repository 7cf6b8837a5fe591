"""Of a pair of cells: what is seen of it, how it stands, when it is a way."""

from oldways.checks import look_cell, look_day
from oldways.history import History


def seen(book, x, y, day):
    """What is seen of a pair on a day: a tuple of five truths."""
    history = _history(book, x, y)
    look_day(day)
    return history.seen_on(day)


def stand(book, x, y, day):
    """How a pair stands at a day's end: ("way", n) or ("none", n)."""
    history = _history(book, x, y)
    look_day(day)
    standing, _ = history.walked(day)
    return standing


def spans(book, x, y):
    """The spans of all days on which a pair is a way."""
    turns = _history(book, x, y).turns()
    # It begins as none, and in the end it is none.
    return [(first, behind - 1) for first, behind in zip(turns[::2], turns[1::2])]


def next_change(book, x, y, day):
    """The first day behind a told one on which a pair turns, None where there is none."""
    history = _history(book, x, y)
    look_day(day)
    return min([turn for turn in history.turns() if turn > day], default=None)


def _history(book, x, y):
    """The history of a pair by a book; refuses what are no two cells."""
    land = book.land()
    look_cell(land, x)
    look_cell(land, y)
    return History(land, book.deeds(), x, y)
