"""The history of a pair of cells: what is seen of it, day by day."""

from itertools import pairwise

from oldways.clock import leapt
from oldways.hands import chain_of, hand_of
from oldways.stretches import lies_in


class History:
    """What a list of deeds tells of a pair."""

    def __init__(self, land, deeds, x, y):
        self._land = land
        self._x_chain = chain_of(land, deeds, x)
        self._y_chain = chain_of(land, deeds, y)
        # Grants, ends and uses have both stretches in the same places.
        self._deeds = [
            deed for deed in deeds
            if deed[0] != "sale" and lies_in(x, deed[3]) and lies_in(y, deed[4])
        ]

    def seen_on(self, day):
        """What is seen on a day: a tuple of five truths."""
        x_hand = hand_of(self._x_chain, day)
        y_hand = hand_of(self._y_chain, day)
        granted = any([deed[:3] == ("grant", day, y_hand) for deed in self._deeds])
        ended = any([deed[:3] == ("end", day, x_hand) for deed in self._deeds])
        uses = [deed for deed in self._deeds if deed[0] == "use" and deed[1] <= day <= deed[2]]
        used = any([not deed[5] for deed in uses])
        by_leave = any([deed[5] for deed in uses])
        return x_hand == y_hand, granted, ended, used, by_leave

    def days(self):
        """Days, rising, from 0 on: from each one up to the next one the same is seen."""
        days = [day for day, _ in self._x_chain] + [day for day, _ in self._y_chain]
        for deed in self._deeds:
            last = deed[2] if deed[0] == "use" else deed[1]
            days += [deed[1], last + 1]
        return sorted(set(days))

    def walked(self, end):
        """How the pair stands on the end's day, and the days up to it on which it turned."""
        days = [day for day in self.days() if day <= end] + [end + 1]
        standing = ("none", 0)
        turns = []
        for day, following in pairwise(days):
            standing, turn = leapt(self._land, standing, self.seen_on(day), many=following - day)
            if turn is not None:
                turns.append(day + turn - 1)
        return standing, turns

    def turns(self):
        """All days on which the pair turned, rising: a way, none, a way and so on."""
        # Behind the last of the days nothing is used any more: a way lapses.
        _, turns = self.walked(self.days()[-1] + self._land.lapse())
        return turns
