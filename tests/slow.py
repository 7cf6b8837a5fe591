"""The clockwork as [9] and [10] tell it, gone cell by cell and day by day."""

import itertools
import random

from oldways.book import Book
from oldways.land import Land

HANDS = ("ann", "bob", "cid")
TRUTHS = (False, True)
# All that can be seen of a pair on a day.
ALL_SEEN = list(itertools.product(TRUTHS, repeat=5))


def lies_in(cell, stretch):
    return stretch[0] <= cell < stretch[0] + stretch[1]


def slow_hand(book, cell, day):
    """The hand of a cell on a day."""
    sales = [deed for deed in book.deeds() if deed[0] == "sale" and lies_in(cell, deed[2])]
    days = [deed[1] for deed in sales if deed[1] <= day]
    if not days:
        return book.land().hand()
    return max(deed[3] for deed in sales if deed[1] == max(days))


def slow_seen(book, x, y, day):
    """What is seen of a pair on a day."""
    x_hand, y_hand = slow_hand(book, x, day), slow_hand(book, y, day)
    granted = ended = used = leave = False
    for deed in book.deeds():
        if deed[0] != "sale" and lies_in(x, deed[3]) and lies_in(y, deed[4]):
            granted |= deed[0] == "grant" and deed[1] == day and deed[2] == y_hand
            ended |= deed[0] == "end" and deed[1] == day and deed[2] == x_hand
            if deed[0] == "use" and deed[1] <= day <= deed[2]:
                used |= not deed[5]
                leave |= deed[5]
    return (x_hand == y_hand, granted, ended, used, leave)


def slow_step(land, stand, seen):
    """How a pair stands behind a day."""
    one_hand, granted, ended, used, leave = seen
    word, days = stand
    if one_hand:
        return ("none", 0)
    if granted:
        return ("way", 0)
    if ended:
        return ("none", 0)
    if word == "none":
        if used:
            return ("way", 0) if days + 1 == land.grow() else ("none", days + 1)
        return ("none", 0)
    if used or leave:
        return ("way", 0)
    return ("none", 0) if days + 1 == land.lapse() else ("way", days + 1)


def slow_stands(book, x, y, many):
    """How a pair stands on each of the first days."""
    stands = []
    stand = ("none", 0)
    for day in range(many):
        stand = slow_step(book.land(), stand, slow_seen(book, x, y, day))
        stands.append(stand)
    return stands


class Slow:
    """What is seen of each pair, and how it stands, on each of the first days of a small book."""

    def __init__(self, book, days=40):
        self.land = book.land()
        self.days = range(days)
        self.cells = range(self.land.cells())
        self.pairs = list(itertools.product(self.cells, repeat=2))
        self.hands = [[slow_hand(book, cell, day) for cell in self.cells] for day in self.days]
        self.deeds = book.deeds()
        self.seen = {pair: [self._seen(*pair, day) for day in self.days] for pair in self.pairs}
        self.stands = {pair: stands_by(self.land, seen) for pair, seen in self.seen.items()}

    def _seen(self, x, y, day):
        x_hand, y_hand = self.hands[day][x], self.hands[day][y]
        about = [deed for deed in self.deeds
                 if deed[0] != "sale" and lies_in(x, deed[3]) and lies_in(y, deed[4])]
        uses = [deed for deed in about if deed[0] == "use" and deed[1] <= day <= deed[2]]
        return (x_hand == y_hand,
                any(deed[:3] == ("grant", day, y_hand) for deed in about),
                any(deed[:3] == ("end", day, x_hand) for deed in about),
                any(not deed[5] for deed in uses), any(deed[5] for deed in uses))

    def ways(self, day):
        """All pairs that are ways on a day, in order."""
        return [pair for pair in self.pairs if self.stands[pair][day][0] == "way"]


class SlowPair:
    """One pair on the first days of a small book, by whichever of its grants and uses."""

    def __init__(self, book, x, y, days=40):
        self.land = book.land()
        self.days = range(days)
        self.hands = [(slow_hand(book, x, day), slow_hand(book, y, day)) for day in self.days]
        deeds = [deed for deed in book.deeds() if deed[0] != "sale"]
        self.helps = [deed for deed in deeds if deed[0] != "end"]
        about = [deed for deed in deeds if lies_in(x, deed[3]) and lies_in(y, deed[4])]
        self.about = [deed for deed in about if deed[0] != "end"]
        self.ended = [any(deed[:3] == ("end", day, self.hands[day][0]) for deed in about)
                      for day in self.days]

    def seen(self, day, deeds):
        """What is seen on a day by these grants and uses about the pair, and all sales and ends."""
        x_hand, y_hand = self.hands[day]
        uses = [deed for deed in deeds if deed[0] == "use" and deed[1] <= day <= deed[2]]
        return (x_hand == y_hand, ("grant", day, y_hand) in [deed[:3] for deed in deeds],
                self.ended[day], False in [deed[5] for deed in uses], True in [deed[5] for deed in uses])

    def stands(self, deeds):
        """How it stands on each day by these grants and uses, and all sales and ends."""
        deeds = [deed for deed in deeds if deed in self.about]
        return stands_by(self.land, [self.seen(day, deeds) for day in self.days])


def stands_by(land, seen, stand=("none", 0)):
    """How a pair stands on each of the days of which it is told what is seen."""
    stands = []
    for one in seen:
        stand = slow_step(land, stand, one)
        stands.append(stand)
    return stands


def spans_where(truths):
    """The spans of the days, from 0 on, on which a truth is told."""
    spans = []
    for day, truth in enumerate(truths):
        if truth and spans and spans[-1][1] == day - 1:
            spans[-1] = (spans[-1][0], day)
        elif truth:
            spans.append((day, day))
    return spans


def runs(worths):
    """Tuples (stretch, worth) of a dict from cells to worths."""
    rows = []
    for cell in sorted(worths):
        if rows and rows[-1][0] + rows[-1][1] == cell and rows[-1][2] == worths[cell]:
            rows[-1][1] += 1
        else:
            rows.append([cell, 1, worths[cell]])
    return [((first, many), worth) for first, many, worth in rows]


def form_of(values):
    """The one form of each pair's value, sought cell by cell."""
    strips = {}
    for (x, y), value in values.items():
        strips.setdefault(x, {})[y] = value
    return runs({x: tuple(runs(strip)) for x, strip in strips.items()})


def any_stretch(chance, cells):
    first = chance.randrange(cells)
    return (first, chance.randint(1, cells - first))


def any_deed(chance, cells, days):
    kind = chance.choice(["sale", "grant", "end", "use", "use", "use"])
    day = chance.randrange(days)
    if kind == "sale":
        return (kind, day, any_stretch(chance, cells), chance.choice(HANDS))
    froms, overs = any_stretch(chance, cells), any_stretch(chance, cells)
    if kind == "use":
        last = min(days, day + chance.randrange(8))
        return (kind, day, last, froms, overs, chance.random() < 0.3)
    return (kind, day, chance.choice(HANDS), froms, overs)


def any_book(chance, cells=4, days=16):
    """A small book, told and taken back by chance."""
    land = Land(cells, chance.choice(HANDS), grow=chance.randint(1, 4), lapse=chance.randint(1, 4))
    told = [any_deed(chance, cells, days) for _ in range(chance.randrange(14))]
    return Book(land, told, back=told[:chance.randrange(3)])


def books(many, seed, cells=4, days=16):
    """So many small books, the same ones each time."""
    chance = random.Random(seed)
    return [any_book(chance, cells, days) for _ in range(many)]
