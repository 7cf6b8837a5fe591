"""The looker: whether any thing is a title, or a want, of a pair and a day. It seeks nothing."""

from itertools import pairwise

from oldways.checks import look_day
from oldways.histories import pair_history
from oldways.sights import is_falling, is_granting, is_growing, is_idle
from oldways.things import is_whole


def is_title(book, x, y, day, thing):
    """Whether any thing is a title of a pair and a day."""
    history = pair_history(book, x, y)
    look_day(day)
    if not isinstance(thing, list) or not all([_is_helping(book, deed) for deed in thing]):
        return False
    if not all([one < other for one, other in pairwise(thing)]):
        return False
    return history.with_only(thing).is_way(day)


def is_want(book, x, y, day, thing):
    """Whether any thing is a want of a pair and a day."""
    history = pair_history(book, x, y)
    look_day(day)
    if not isinstance(thing, tuple) or len(thing) != 2:
        return False
    begin, gaps = thing
    if not isinstance(gaps, list) or not all([_is_span(gap) for gap in gaps]):
        return False
    return (
        _is_begin(history, begin, day)
        and _are_near(gaps, begin, day, history.land().grow())
        and _are_unused(history, gaps, begin, day)
    )


def _is_helping(book, thing):
    """Whether any thing is a grant or a use that stands in the book."""
    return book.stands(thing) and thing[0] in ("grant", "use")


def _is_span(thing):
    """Whether any thing is a span of days."""
    if not isinstance(thing, tuple) or len(thing) != 2:
        return False
    first, last = thing
    return is_whole(first) and is_whole(last) and 0 <= first <= last


def _is_begin(history, thing, day):
    """Whether any thing is -1, or a day up to the told one at whose end the pair is none whatever was ahead."""
    if not is_whole(thing) or not -1 <= thing <= day:
        return False
    if thing == -1 or is_falling(history.seen_on(thing)):
        return True
    since = thing - history.land().lapse() + 1
    return since >= 0 and all([is_idle(seen) for _, _, seen in history.stages(since, thing)])


def _are_near(gaps, begin, day, grow):
    """Whether rising gaps stand from the begin to the day, with too few days between for a way to grow."""
    bounds = [(begin, begin), *gaps, (day + 1, day + 1)]
    return all([0 < first - last <= grow for (_, last), (first, _) in pairwise(bounds)])


def _are_unused(history, gaps, begin, day):
    """Whether no way is granted behind the begin, and none grows in the gaps, up to the day."""
    for first, last, seen in history.stages(begin + 1, day):
        if is_granting(seen):
            return False
        if is_growing(seen) and any([gap[0] <= last and first <= gap[1] for gap in gaps]):
            return False
    return True
