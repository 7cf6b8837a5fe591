"""Papers of a pair and a day: titles by which it is a way, wants by which it is none."""

from oldways.checks import look_day
from oldways.histories import pair_history
from oldways.sights import is_growing
from oldways.spans import joined_spans


def title(book, x, y, day):
    """As few grants and uses as can be by which alone a pair is a way on a day, None where it is none."""
    history = pair_history(book, x, y)
    look_day(day)
    if not history.is_way(day):
        return None
    rows = _titles_by_grant(history, day) + _titles_by_growth(history, day)
    return sorted(min(rows, key=len))


def needful(book, x, y, day):
    """The grants and uses without each of which a pair would be no way on a day."""
    # What isn't in one title isn't needed.
    deeds = title(book, x, y, day) or []
    history = pair_history(book, x, y)
    return [deed for deed in deeds if not _without(history, deed).is_way(day)]


def want(book, x, y, day):
    """A day at whose end a pair is none, and the gaps in its use from then on, None where it is a way."""
    history = pair_history(book, x, y)
    look_day(day)
    if history.is_way(day):
        return None
    begin = history.last_turn(day)
    stages = history.stages(begin + 1, day)
    gaps = [(first, last) for first, last, seen in stages if not is_growing(seen)]
    return begin, joined_spans(gaps)


def _without(history, deed):
    """A like history but for one of the deeds, left out."""
    return history.with_only([other for other in history.deeds() if other != deed])


def _titles_by_grant(history, day):
    """Titles that begin with a grant, for each that may begin one: as few deeds as can be."""
    uses = _uses(history)
    since = _barred(history, day)
    rows = []
    for deed in history.deeds():
        # Granted and ended on one day is granted.
        if deed[0] == "grant" and since <= deed[1] <= day and _is_given(history, deed):
            rows.append(_kept_alive(history, [deed], deed[1], uses, day))
    return [row for row in rows if row is not None]


def _titles_by_growth(history, day):
    """Titles by which a way arises by use, for each use that may begin one: as few deeds as can be."""
    uses = _uses(history)
    growers = [deed for deed in uses if not deed[5]]
    since = _barred(history, day) + 1
    rows = []
    for deed in growers:
        due = max(deed[1], since) + history.land().grow() - 1
        if deed[2] >= since and due <= day:
            deeds = _followed([deed], deed[2], growers, 1, due)
            if deeds is not None:
                rows.append(_kept_alive(history, deeds, deeds[-1][2], uses, day))
    return [row for row in rows if row is not None]


def _kept_alive(history, deeds, reach, uses, day):
    """Deeds by which a pair is a way on the reach's day, with as few uses more as keep it one, or None."""
    lapse = history.land().lapse()
    return _followed(deeds, reach, uses, lapse, day - lapse + 1)


def _followed(deeds, reach, uses, stride, due):
    """Deeds up to the reach's day, with as few uses more, each within a stride of those ahead, up to a due day.

    None where there are no such uses.
    """
    deeds = list(deeds)
    while reach < due:
        # The one that leads furthest leaves as few as can be to follow it.
        lasts = [(use[2], use) for use in uses if use[1] <= reach + stride]
        last, use = max(lasts, default=(reach, None))
        if last <= reach:
            return None
        deeds.append(use)
        reach = last
    return deeds


def _uses(history):
    """All uses of a pair."""
    return [deed for deed in history.deeds() if deed[0] == "use"]


def _is_given(history, grant):
    """Whether a grant makes the pair a way on its day."""
    x_hand, y_hand = history.hands_on(grant[1])
    return x_hand != y_hand and grant[2] == y_hand


def _barred(history, day):
    """The last day up to a told one on which both cells are in one hand, or it is ended, -1 without any."""
    lasts = [last for _, last, (one_hand, _, ended, _, _) in history.stages(0, day) if one_hand or ended]
    return max(lasts, default=-1)
