"""In which hand cells are, by the sales of a book."""

from itertools import pairwise

from oldways.checks import look_cell, look_day
from oldways.stretches import edges, joined, lies_in


def hand_at(book, cell, day):
    """The hand in which a cell is on a day."""
    links = chain(book, cell)
    look_day(day)
    return hand_of(links, day)


def holdings(book, day):
    """The land's stretches by hands on a day: tuples (stretch, hand), as few as can be."""
    look_day(day)
    land = book.land()
    deeds = book.deeds()
    sold = [deed[2] for deed in deeds if deed[0] == "sale"]
    ends = edges([(0, land.cells()), *sold])
    pieces = []
    for first, end in pairwise(ends):
        # All cells between two edges are sold alike.
        hand = hand_of(chain_of(land, deeds, first), day)
        pieces.append(((first, end - first), hand))
    return joined(pieces)


def held(book, hand, day):
    """The stretches that a hand holds on a day, [] of any other thing."""
    return [stretch for stretch, holder in holdings(book, day) if holder == hand]


def chain(book, cell):
    """A cell's hands: (0, hand), then each day from which on it is in another one, with that."""
    land = book.land()
    look_cell(land, cell)
    return chain_of(land, book.deeds(), cell)


def chain_of(land, deeds, cell):
    """The chain of a cell by a list of deeds."""
    sales = [(deed[1], deed[3]) for deed in deeds if deed[0] == "sale" and lies_in(cell, deed[2])]
    hands = {0: land.hand()}
    # Of several sales on one day the last in order stays.
    for day, hand in sorted(sales):
        hands[day] = hand
    links = []
    for day, hand in hands.items():
        if not links or links[-1][1] != hand:
            links.append((day, hand))
    return links


def hand_of(links, day):
    """The hand on a day by a cell's chain."""
    return [hand for since, hand in links if since <= day][-1]
