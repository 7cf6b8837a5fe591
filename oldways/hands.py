"""In which hand cells are, by the sales of a book."""

from oldways.checks import look_cell, look_day
from oldways.stretches import edges, joined, lies_in, pieces_between


def hand_at(book, cell, day):
    """The hand in which a cell is on a day."""
    links = chain(book, cell)
    look_day(day)
    return hand_of(links, day)


def holdings(book, day):
    """The land's stretches by hands on a day: tuples (stretch, hand), as few as can be."""
    look_day(day)
    land = book.land()
    sales = _sales(book)
    bounds = edges([(0, land.cells())] + [deed[2] for deed in sales])
    # All cells between two bounds are sold alike.
    return joined([
        (piece, hand_of(_chain(land, sales, piece[0]), day)) for piece in pieces_between(bounds)
    ])


def held(book, hand, day):
    """The stretches that a hand holds on a day, [] of any other thing."""
    return [stretch for stretch, holder in holdings(book, day) if holder == hand]


def chain(book, cell):
    """A cell's hands: (0, hand), then each day from which on it is in another one, with that."""
    land = book.land()
    look_cell(land, cell)
    return _chain(land, _sales(book), cell)


def chain_of(land, sales):
    """The chain of a cell by the sales of it."""
    hands = {0: land.hand()}
    # Of several sales on one day the last in order stays.
    for day, hand in sorted([(deed[1], deed[3]) for deed in sales]):
        hands[day] = hand
    links = []
    for day, hand in hands.items():
        if not links or links[-1][1] != hand:
            links.append((day, hand))
    return links


def hand_of(links, day):
    """The hand on a day by a cell's chain."""
    return [hand for since, hand in links if since <= day][-1]


def _sales(book):
    """The sales that stand in a book."""
    return [deed for deed in book.deeds() if deed[0] == "sale"]


def _chain(land, sales, cell):
    """The chain of a cell by sales of any cells."""
    return chain_of(land, [deed for deed in sales if lies_in(cell, deed[2])])
