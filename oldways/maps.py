"""Of all pairs of a land's cells at once: ways, stands, spans, and what two books tell otherwise."""

from oldways.checks import look_day
from oldways.errors import Unlike
from oldways.sheets import Sheet
from oldways.spans import spans_between
from oldways.strips import shared_strips


def ways(book, day):
    """A sheet of the pairs that are ways on a day, each with True."""
    return Sheet([(froms, overs, True) for froms, overs, _ in way_boxes(book, day)])


def stands(book, day):
    """A sheet of how the pairs stand at a day's end, those of ("none", 0) left out."""
    look_day(day)
    boxes = [(froms, overs, history.stand_on(day)) for froms, overs, history in _boxes(book)]
    return Sheet([box for box in boxes if box[2] != ("none", 0)])


def all_spans(book):
    """A sheet of the pairs' tuples of spans on which they are ways, those without any left out."""
    boxes = [(froms, overs, tuple(spans_between(history.turns()))) for froms, overs, history in _boxes(book)]
    return Sheet([box for box in boxes if box[2]])


def changes(one, other):
    """A sheet of the pairs' tuples of spans on which they are ways by just one of two books."""
    return Sheet(_changed_boxes(one, other))


def counts(book, day):
    """A dict from (hand of x, hand of y) to how many pairs are ways on a day."""
    numbers = {}
    for froms, overs, history in way_boxes(book, day):
        hands = history.hands_on(day)
        numbers[hands] = numbers.get(hands, 0) + froms[1] * overs[1]
    return numbers


def quiet(book):
    """The least day behind which no pair turns any more."""
    # On the last day on which a pair turns, it turns none: never on day 0.
    return max([turn for _, _, history in _boxes(book) for turn in history.turns()[-1:]], default=0)


def parted(one, other):
    """The first day on which a pair is a way by just one of two books, and the first such pair, or None."""
    firsts = [(spans[0][0], froms[0], overs[0]) for froms, overs, spans in _changed_boxes(one, other)]
    return min(firsts, default=None)


def way_boxes(book, day):
    """Tuples (stretch of x, stretch of y, history) with all pairs that are ways on a day."""
    look_day(day)
    return [box for box in _boxes(book) if box[2].is_way(day)]


def _boxes(book):
    """Tuples (stretch of x, stretch of y, history) with all pairs that ever don't stand as ("none", 0)."""
    return book.histories().boxes()


def _changed_boxes(one, other):
    """Tuples (stretch of x, stretch of y, spans) of the pairs that are ways by just one of two books."""
    if not one.land() == other.land():
        raise Unlike()
    left = one.histories()
    right = other.histories()
    overs = shared_strips(left.overs(), right.overs())
    boxes = []
    for x_stretch, x_marks, x_others in shared_strips(left.froms(), right.froms()):
        for y_stretch, y_marks, y_others in overs:
            turns = left.turns(x_marks, y_marks)
            others = right.turns(x_others, y_others)
            if turns != others:
                # Where both turn on a day, both are ways or both are none on it and on the day ahead,
                # or just one is on both: it is no bound of a span.
                spans = spans_between(sorted(set(turns) ^ set(others)))
                boxes.append((x_stretch, y_stretch, tuple(spans)))
    return boxes
