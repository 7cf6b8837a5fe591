"""How the land comes free: by deals, each of all that a hand holds, or by waiting."""

from oldways.checks import is_cell, look_day
from oldways.errors import NoHand
from oldways.hands import held
from oldways.land import is_hand
from oldways.maps import way_boxes
from oldways.stretches import meet


def freed(book, day):
    """As few deals as can be that free a day's ways, and as many of these, whose hands make no ring."""
    ties = _ties(book, day)
    holders = _holders(ties)
    deals = []
    pairs = []
    for (one, other), pair in ties.items():
        deal = (holders[one], holders[other])
        if deal[0] != deal[1]:
            holders = _dealt(holders, deal)
            deals.append(deal)
            pairs.append(pair)
    return deals, pairs


def is_freed(book, day, thing):
    """Whether any thing is such a tuple of deals and ways of a day."""
    ties = _ties(book, day)
    if not isinstance(thing, tuple) or len(thing) != 2:
        return False
    deals, pairs = thing
    if not isinstance(deals, list) or not isinstance(pairs, list) or len(deals) != len(pairs):
        return False
    if not all([_is_deal(deal) for deal in deals]) or not all([_is_way(book, day, pair) for pair in pairs]):
        return False
    return _makes_no_ring(book, day, pairs) and _frees(deals, ties)


def free_by(book, hand, day):
    """The first day from a told one on on which a hand's land is free, if nothing is done behind it."""
    look_day(day)
    stretches = held(book, hand, day)
    if not stretches:
        raise NoHand(hand)
    lapse = book.land().lapse()
    days = [day]
    for _, overs, history in way_boxes(book, day):
        if any([meet(overs, stretch) for stretch in stretches]):
            _, unused = history.stand_on(day)
            days.append(day + lapse - unused)
    return max(days)


def _ties(book, day):
    """A dict from (hand of x, hand of y) to one of the pairs that are ways on a day."""
    ties = {}
    for froms, overs, history in way_boxes(book, day):
        ties.setdefault(history.hands_on(day), (froms[0], overs[0]))
    return ties


def _holders(ties):
    """A dict from each hand of the ties to itself."""
    return {hand: hand for tie in ties for hand in tie}


def _dealt(holders, deal):
    """Who holds behind a deal what each hand held at first."""
    giver, taker = deal
    return {hand: taker if holder == giver else holder for hand, holder in holders.items()}


def _is_deal(thing):
    """Whether any thing is a deal of two hands."""
    return isinstance(thing, tuple) and len(thing) == 2 and is_hand(thing[0]) and is_hand(thing[1])


def _is_way(book, day, thing):
    """Whether any thing is a pair that is a way on a day."""
    if not isinstance(thing, tuple) or len(thing) != 2:
        return False
    histories = book.histories()
    land = histories.land()
    x, y = thing
    return is_cell(land, x) and is_cell(land, y) and histories.of(x, y).is_way(day)


def _makes_no_ring(book, day, pairs):
    """Whether the hands of these ways, taken as ties between hands, make no ring."""
    ties = [book.histories().of(x, y).hands_on(day) for x, y in pairs]
    holders = _holders(ties)
    for one, other in ties:
        deal = (holders[one], holders[other])
        if deal[0] == deal[1]:
            return False
        holders = _dealt(holders, deal)
    return True


def _frees(deals, ties):
    """Whether behind the deals both hands of each tie have become one."""
    holders = _holders(ties)
    for deal in deals:
        holders = _dealt(holders, deal)
    return all([holders[one] == holders[other] for one, other in ties])
