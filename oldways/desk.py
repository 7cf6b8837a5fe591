"""A desk: a land, and a book of it, that answer texts."""

from oldways.book import Book
from oldways.errors import NoText
from oldways.freed import freed
from oldways.hands import hand_at
from oldways.land import Land
from oldways.maps import quiet, ways
from oldways.pairs import spans, stand
from oldways.roads import is_open
from oldways.texts import read_deed, read_number, show_deed
from oldways.titles import title, want


class Desk:
    """A land and a book of it; rows, texts, tell the book deeds or ask it."""

    def __init__(self, cells, hand, *, grow=20, lapse=20, roads=()):
        self._book = Book(Land(cells, hand, grow=grow, lapse=lapse, roads=roads))

    def say(self, row):
        """The answer to a row; refuses any other thing."""
        words = _words_of(row)
        word = words[0]
        if word == "told":
            return _news(self._book.tell(_read_told(words)))
        if word == "back":
            return _news(self._book.take_back(_read_told(words)))
        numbers = _read_numbers(words, NUMBERS[word])
        answer = ANSWERS[word]
        return answer(self._book, *numbers)

    def book(self):
        """A copy of the book."""
        return self._book.copy()


def _say_pair(book, x, y, day):
    """How a pair stands on a day."""
    word, days = stand(book, x, y, day)
    return f"{word} {days}"


def _say_spans(book, x, y):
    """The spans of days on which a pair is a way."""
    return " ".join([_show_span(span) for span in spans(book, x, y)]) or "never"


def _say_why(book, x, y, day):
    """A title, or a want, of a pair and a day."""
    deeds = title(book, x, y, day)
    if deeds is not None:
        return _show_deeds(deeds)
    begin, gaps = want(book, x, y, day)
    return " ".join([f"want {begin}"] + [_show_span(gap) for gap in gaps])


def _say_hand(book, x, day):
    """The hand of a cell on a day."""
    return hand_at(book, x, day)


def _say_count(book, day):
    """How many pairs are ways on a day."""
    return str(ways(book, day).area())


def _say_quiet(book):
    """The day behind which no pair turns any more."""
    return str(quiet(book))


def _say_free(book, day):
    """How many deals free a day's ways."""
    deals, _ = freed(book, day)
    return str(len(deals))


def _say_open(book, x, day):
    """Whether a cell is open on a day."""
    return "yes" if is_open(book, x, day) else "no"


def _say_deeds(book):
    """All deeds that stand."""
    return _show_deeds(book.deeds()) or "-"


# How many numbers stand behind a row's first word, and what answers it. Rows
# that tell the book deeds are read otherwise.
NUMBERS = {
    "pair": 3,
    "spans": 2,
    "why": 3,
    "hand": 2,
    "count": 1,
    "quiet": 0,
    "free": 1,
    "open": 2,
    "deeds": 0,
}
ANSWERS = {
    "pair": _say_pair,
    "spans": _say_spans,
    "why": _say_why,
    "hand": _say_hand,
    "count": _say_count,
    "quiet": _say_quiet,
    "free": _say_free,
    "open": _say_open,
    "deeds": _say_deeds,
}


def _words_of(row):
    """The words of a row whose first one is right; refuses any other thing."""
    if not isinstance(row, str):
        raise NoText(0)
    words = row.split(" ")
    if words[0] not in NUMBERS and words[0] not in ("told", "back"):
        raise NoText(0)
    return words


def _read_told(words):
    """The deed behind a row's first word."""
    try:
        return read_deed(" ".join(words[1:]))
    except NoText as refusal:
        raise NoText(1 + refusal.place) from None


def _read_numbers(words, many):
    """So many numbers behind a row's first word, and nothing more."""
    numbers = []
    for place in range(1, many + 1):
        number = read_number(words[place]) if place < len(words) else None
        if number is None:
            raise NoText(place)
        numbers.append(number)
    if len(words) > 1 + many:
        raise NoText(1 + many)
    return numbers


def _news(is_new):
    """What is told of a telling: whether other deeds stand behind it than ahead."""
    return "new" if is_new else "same"


def _show_span(span):
    """The text of a span."""
    first, last = span
    return f"{first}-{last}"


def _show_deeds(deeds):
    """The text of deeds, "" of none."""
    return "; ".join([show_deed(deed) for deed in deeds])
