"""The history of a pair of cells: what is seen of it, and how it stands, day by day."""

from oldways.clock import leapt
from oldways.hands import hand_of
from oldways.rising import place_of


class History:
    """What the chains of a pair's two cells, and the deeds about it but for sales, tell of it.

    It goes by stages: as many days on end, as long as can be, on which the
    same is seen. It is never changed, so that all it works out stays right.
    """

    def __init__(self, land, x_chain, y_chain, deeds):
        self._land = land
        self._x_chain = x_chain
        self._y_chain = y_chain
        self._deeds = deeds
        self._days, self._sights = _stages(x_chain, y_chain, deeds)
        self._walk = None

    def land(self):
        """The land that the pair lies in."""
        return self._land

    def deeds(self):
        """The grants, ends and uses about the pair, in order."""
        return list(self._deeds)

    def with_only(self, deeds):
        """A like history, but that of grants and uses it has these alone."""
        kept = [deed for deed in self._deeds if deed[0] == "end" or deed in deeds]
        return History(self._land, self._x_chain, self._y_chain, kept)

    def hands_on(self, day):
        """The hands of both cells on a day."""
        return hand_of(self._x_chain, day), hand_of(self._y_chain, day)

    def seen_on(self, day):
        """What is seen on a day: a tuple of five truths."""
        return self._sights[place_of(self._days, day)]

    def stand_on(self, day):
        """How the pair stands at a day's end."""
        place = place_of(self._days, day)
        stands, _ = self._walked()
        many = day - self._days[place] + 1
        standing, _ = leapt(self._land, stands[place], self._sights[place], many=many)
        return standing

    def is_way(self, day):
        """Whether the pair is a way on a day."""
        _, turns = self._walked()
        # It begins as none: behind each other turn it is a way.
        return place_of(turns, day) & 1 == 0

    def turns(self):
        """All days on which the pair turned, rising: a way, none, a way and so on, at last none."""
        _, turns = self._walked()
        return list(turns)

    def last_turn(self, day):
        """The last day up to a told one on which the pair turned, -1 where there is none."""
        _, turns = self._walked()
        place = place_of(turns, day)
        return turns[place] if place >= 0 else -1

    def next_turn(self, day):
        """The first day behind a told one on which the pair turns, None where there is none."""
        _, turns = self._walked()
        place = place_of(turns, day) + 1
        return turns[place] if place < len(turns) else None

    def starts(self):
        """The first day of each stage, rising, from 0 on."""
        return list(self._days)

    def stages(self, first, last):
        """The stages from a first to a last day: tuples (first, last, what is seen)."""
        if first > last:
            return []
        low = place_of(self._days, first)
        high = place_of(self._days, last) + 1
        begins = [first, *self._days[low + 1:high]]
        ends = [day - 1 for day in begins[1:]] + [last]
        return list(zip(begins, ends, self._sights[low:high]))

    def _walked(self):
        """How the pair stands ahead of each stage, and all days on which it turns, rising."""
        # Who only asks what is seen needn't wait for this.
        if self._walk is None:
            self._walk = _walk_stages(self._land, self._days, self._sights)
        return self._walk


def _stages(x_chain, y_chain, deeds):
    """The first days of all stages, rising, from 0 on, and what is seen in each."""
    x_hands = dict(x_chain)
    y_hands = dict(y_chain)
    used_news = _use_news(deeds, False)
    leave_news = _use_news(deeds, True)
    given = {deed[:3] for deed in deeds if deed[0] != "use"}
    x_hand = y_hand = sight = None
    used = by_leave = 0
    days = []
    sights = []
    for day in sorted(set([*x_hands, *y_hands, *used_news, *leave_news, *_given_days(deeds)])):
        x_hand = x_hands.get(day, x_hand)
        y_hand = y_hands.get(day, y_hand)
        used += used_news.get(day, 0)
        by_leave += leave_news.get(day, 0)
        granted = ("grant", day, y_hand) in given
        ended = ("end", day, x_hand) in given
        ahead = sight
        sight = (x_hand == y_hand, granted, ended, used > 0, by_leave > 0)
        if sight != ahead:
            days.append(day)
            sights.append(sight)
    return days, sights


def _use_news(deeds, leave):
    """By day, how many more uses there are than on the day ahead, by leave or without."""
    news = {}
    for deed in deeds:
        if deed[0] == "use" and deed[5] == leave:
            first = deed[1]
            behind = deed[2] + 1
            news[first] = news.get(first, 0) + 1
            news[behind] = news.get(behind, 0) - 1
    return news


def _given_days(deeds):
    """The days of grants and ends, and those behind them."""
    days = [deed[1] for deed in deeds if deed[0] != "use"]
    return days + [day + 1 for day in days]


def _walk_stages(land, days, sights):
    """How a pair stands ahead of each stage, and all days on which it turns, rising."""
    standing = ("none", 0)
    stands = []
    turns = []
    # In the last stage nothing is used any more: a way lapses.
    ends = [*days[1:], days[-1] + land.lapse()]
    for first, end, sight in zip(days, ends, sights):
        stands.append(standing)
        standing, turn = leapt(land, standing, sight, many=end - first)
        if turn is not None:
            turns.append(first + turn - 1)
    return stands, turns
