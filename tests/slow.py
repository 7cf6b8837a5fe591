"""The clockwork as [9] and [10] tell it, gone cell by cell and day by day."""

import itertools
import random

from oldways.book import Book
from oldways.land import Land

HANDS = ("ann", "bob", "cid")
TRUTHS = (False, True)
# All that can be seen of a pair on a day.
ALL_SEEN = list(itertools.product(TRUTHS, repeat=5))


def lies_in(cell, stretch):
    return stretch[0] <= cell < stretch[0] + stretch[1]


def slow_hand(book, cell, day):
    """The hand of a cell on a day."""
    sales = [deed for deed in book.deeds() if deed[0] == "sale" and lies_in(cell, deed[2])]
    days = [deed[1] for deed in sales if deed[1] <= day]
    if not days:
        return book.land().hand()
    return max(deed[3] for deed in sales if deed[1] == max(days))


def slow_seen(book, x, y, day):
    """What is seen of a pair on a day."""
    x_hand, y_hand = slow_hand(book, x, day), slow_hand(book, y, day)
    granted = ended = used = leave = False
    for deed in book.deeds():
        if deed[0] != "sale" and lies_in(x, deed[3]) and lies_in(y, deed[4]):
            granted |= deed[0] == "grant" and deed[1] == day and deed[2] == y_hand
            ended |= deed[0] == "end" and deed[1] == day and deed[2] == x_hand
            if deed[0] == "use" and deed[1] <= day <= deed[2]:
                used |= not deed[5]
                leave |= deed[5]
    return (x_hand == y_hand, granted, ended, used, leave)


def slow_step(land, stand, seen):
    """How a pair stands behind a day."""
    one_hand, granted, ended, used, leave = seen
    word, days = stand
    if one_hand:
        return ("none", 0)
    if granted:
        return ("way", 0)
    if ended:
        return ("none", 0)
    if word == "none":
        if used:
            return ("way", 0) if days + 1 == land.grow() else ("none", days + 1)
        return ("none", 0)
    if used or leave:
        return ("way", 0)
    return ("none", 0) if days + 1 == land.lapse() else ("way", days + 1)


def slow_stands(book, x, y, many):
    """How a pair stands on each of the first days."""
    stands = []
    stand = ("none", 0)
    for day in range(many):
        stand = slow_step(book.land(), stand, slow_seen(book, x, y, day))
        stands.append(stand)
    return stands


def any_stretch(chance, cells):
    first = chance.randrange(cells)
    return (first, chance.randint(1, cells - first))


def any_deed(chance, cells, days):
    kind = chance.choice(["sale", "grant", "end", "use", "use", "use"])
    day = chance.randrange(days)
    if kind == "sale":
        return (kind, day, any_stretch(chance, cells), chance.choice(HANDS))
    froms, overs = any_stretch(chance, cells), any_stretch(chance, cells)
    if kind == "use":
        last = min(days, day + chance.randrange(8))
        return (kind, day, last, froms, overs, chance.random() < 0.3)
    return (kind, day, chance.choice(HANDS), froms, overs)


def any_book(chance, cells=4, days=16):
    """A small book, told and taken back by chance."""
    land = Land(cells, chance.choice(HANDS), grow=chance.randint(1, 4), lapse=chance.randint(1, 4))
    told = [any_deed(chance, cells, days) for _ in range(chance.randrange(14))]
    return Book(land, told, back=told[:chance.randrange(3)])


def books(many, seed, cells=4, days=16):
    """So many small books, the same ones each time."""
    chance = random.Random(seed)
    return [any_book(chance, cells, days) for _ in range(many)]
