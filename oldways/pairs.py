"""Of a pair of cells: what is seen of it, how it stands, when it is a way."""

from oldways.checks import look_day
from oldways.histories import pair_history
from oldways.spans import spans_between


def seen(book, x, y, day):
    """What is seen of a pair on a day: a tuple of five truths."""
    history = pair_history(book, x, y)
    look_day(day)
    return history.seen_on(day)


def stand(book, x, y, day):
    """How a pair stands at a day's end: ("way", n) or ("none", n)."""
    history = pair_history(book, x, y)
    look_day(day)
    return history.stand_on(day)


def spans(book, x, y):
    """The spans of all days on which a pair is a way."""
    return spans_between(pair_history(book, x, y).turns())


def next_change(book, x, y, day):
    """The first day behind a told one on which a pair turns, None where there is none."""
    history = pair_history(book, x, y)
    look_day(day)
    return history.next_turn(day)
