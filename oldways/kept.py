"""By how few days of walking a box's ways live, and by how few shut days none of its pairs becomes one."""

from oldways.checks import look_day
from oldways.sights import is_falling, is_granting, is_growing, is_idle
from oldways.spans import joined_spans


def kept(book, froms, overs, day, *, until):
    """As few days as can be, as late as can be, by walking on which a box's ways of a day live, or None."""
    histories = _histories(book, froms, overs, day, until)
    ways = [history for history in histories if history.is_way(day)]
    return _days(ways, day, until, is_falling, is_idle, book.land().lapse())


def barred(book, froms, overs, day, *, until):
    """As few days as can be, as late as can be, by shutting which no way arises in a box, or None."""
    histories = _histories(book, froms, overs, day, until)
    nones = [history for history in histories if not history.is_way(day)]
    return _days(nones, day, until, is_granting, is_growing, book.land().grow())


def _histories(book, froms, overs, day, until):
    """The histories of a box's pairs, each once; refuses what are no days."""
    look_day(day)
    look_day(until)
    return book.histories().within(froms, overs)


def _days(histories, day, until, foils, counts, step):
    """As few days as can be such that none of the histories has a step of counting days without any of them.

    None where on a day behind the first one, up to the later one, something is seen that foils it.
    """
    spans = []
    for history in histories:
        stages = history.stages(day + 1, until)
        if any([foils(seen) for _, _, seen in stages]):
            return None
        runs = joined_spans([(first, last) for first, last, seen in stages if counts(seen)])
        if runs and runs[0][0] == day + 1:
            # The days that have counted by now are the run's first ones.
            _, ahead = history.stand_on(day)
            runs[0] = (day + 1 - ahead, runs[0][1])
        spans += runs
    return _spread(sorted(set(spans)), step)


def _spread(spans, step):
    """Tuples (first, step, many): the fewest days, as late as can be, one in each step days of a span."""
    rows = []
    behind = None
    for first, last in spans:
        # Only the days behind the last one that is told by now count in this span.
        since = first if behind is None else max(first, behind)
        many = (last - since + 1) // step
        if many > 0:
            rows.append((since + step - 1, step, many))
            behind = since + step * many
    return _joined_rows(rows, step)


def _joined_rows(rows, step):
    """As few tuples (first, step, many) as can be, each as long as can be from the first day on."""
    runs = []
    for first, _, many in rows:
        if runs and runs[-1][0] + step * runs[-1][1] == first:
            runs[-1][1] += many
        else:
            runs.append([first, many])
    return [(first, step, many) for first, many in runs]
