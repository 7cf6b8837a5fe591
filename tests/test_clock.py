"""[10], [11], [2]: the clockwork of a pair, by single days and by leaps."""

import itertools
import unittest

from oldways.clock import leapt, step
from oldways.land import Land
from tests.anything import BIG
from tests.slow import ALL_SEEN, slow_step

MOST = 10 ** 12
FAR = 10 ** 30

NOTHING = (False, False, False, False, False)
ONE_HAND = (True, False, False, False, False)
GRANTED = (False, True, False, False, False)
ENDED = (False, False, True, False, False)
USED = (False, False, False, True, False)
LEAVE = (False, False, False, False, True)
USED_BOTH_WAYS = (False, False, False, True, True)

LAND = Land(12, "ann", grow=3, lapse=5)
# Grow and lapse of few days, of one among them.
LANDS = [Land(12, "ann", grow=grow, lapse=lapse) for grow in range(1, 5) for lapse in range(1, 5)]


def stands_of(land):
    """All stands that may be, of few days."""
    nones = [("none", days) for days in range(land.grow())]
    return nones + [("way", days) for days in range(land.lapse())]


def stepped(land, stand, seen, many):
    """What leapt tells, gone by single days."""
    turns = []
    for number in range(1, many + 1):
        ahead = stand
        stand = slow_step(land, stand, seen)
        if stand[0] != ahead[0]:
            turns.append(number)
    return stand, turns


class TestStep(unittest.TestCase):
    def assert_step(self, stand, seen, behind, land=LAND):
        told = step(land, stand, seen)
        self.assertEqual(told, behind, (stand, seen))
        self.assertIs(type(told), tuple)
        self.assertIs(type(told[1]), int)

    def test_one_hand(self):
        for rest in itertools.product((False, True), repeat=4):
            for stand in stands_of(LAND):
                self.assert_step(stand, (True,) + rest, ("none", 0))

    def test_granted(self):
        for rest in itertools.product((False, True), repeat=3):
            for stand in stands_of(LAND):
                self.assert_step(stand, (False, True) + rest, ("way", 0))

    def test_ended(self):
        for rest in itertools.product((False, True), repeat=2):
            for stand in stands_of(LAND):
                self.assert_step(stand, (False, False, True) + rest, ("none", 0))

    def test_none_that_is_used_without_leave(self):
        for seen in (USED, USED_BOTH_WAYS):
            self.assert_step(("none", 0), seen, ("none", 1))
            self.assert_step(("none", 1), seen, ("none", 2))
            self.assert_step(("none", 2), seen, ("way", 0))

    def test_none_that_is_not_used_or_by_leave_alone(self):
        for seen in (NOTHING, LEAVE):
            for days in range(3):
                self.assert_step(("none", days), seen, ("none", 0))

    def test_a_way_that_is_used(self):
        for seen in (USED, LEAVE, USED_BOTH_WAYS):
            for days in range(5):
                self.assert_step(("way", days), seen, ("way", 0))

    def test_a_way_that_is_not_used(self):
        for days in range(4):
            self.assert_step(("way", days), NOTHING, ("way", days + 1))
        self.assert_step(("way", 4), NOTHING, ("none", 0))

    def test_one_day_of_growing_and_lapsing(self):
        land = Land(12, "ann", grow=1, lapse=1)
        self.assert_step(("none", 0), USED, ("way", 0), land)
        self.assert_step(("none", 0), NOTHING, ("none", 0), land)
        self.assert_step(("none", 0), LEAVE, ("none", 0), land)
        self.assert_step(("way", 0), NOTHING, ("none", 0), land)
        self.assert_step(("way", 0), LEAVE, ("way", 0), land)

    def test_the_most_days_of_growing_and_lapsing(self):
        land = Land(12, "ann", grow=MOST, lapse=MOST)
        self.assert_step(("none", 0), USED, ("none", 1), land)
        self.assert_step(("none", MOST - 2), USED, ("none", MOST - 1), land)
        self.assert_step(("none", MOST - 1), USED, ("way", 0), land)
        self.assert_step(("none", MOST - 1), NOTHING, ("none", 0), land)
        self.assert_step(("way", MOST - 2), NOTHING, ("way", MOST - 1), land)
        self.assert_step(("way", MOST - 1), NOTHING, ("none", 0), land)
        self.assert_step(("way", MOST - 1), LEAVE, ("way", 0), land)

    def test_grow_and_lapse_are_not_one(self):
        land = Land(12, "ann", grow=2, lapse=7)
        self.assert_step(("none", 1), USED, ("way", 0), land)
        self.assert_step(("way", 1), NOTHING, ("way", 2), land)
        self.assert_step(("way", 6), NOTHING, ("none", 0), land)

    def test_all_that_can_be(self):
        for land in LANDS:
            for stand, seen in itertools.product(stands_of(land), ALL_SEEN):
                self.assert_step(stand, seen, slow_step(land, stand, seen), land)

    def test_by_names(self):
        self.assertEqual(step(land=LAND, stand=("none", 2), seen=USED), ("way", 0))


class TestLeapt(unittest.TestCase):
    def test_as_many_single_steps(self):
        for land in LANDS:
            for stand, seen, many in itertools.product(stands_of(land), ALL_SEEN, range(1, 10)):
                behind, turns = stepped(land, stand, seen, many)
                self.assertLessEqual(len(turns), 1)
                wanted = (behind, turns[0] if turns else None)
                self.assertEqual(leapt(land, stand, seen, many=many), wanted)

    def test_the_day_of_the_turn(self):
        self.assertEqual(leapt(LAND, ("none", 0), USED, many=2), (("none", 2), None))
        self.assertEqual(leapt(LAND, ("none", 0), USED, many=3), (("way", 0), 3))
        self.assertEqual(leapt(LAND, ("none", 1), USED, many=3), (("way", 0), 2))
        self.assertEqual(leapt(LAND, ("none", 2), USED, many=9), (("way", 0), 1))
        self.assertEqual(leapt(LAND, ("way", 0), NOTHING, many=4), (("way", 4), None))
        self.assertEqual(leapt(LAND, ("way", 0), NOTHING, many=5), (("none", 0), 5))
        self.assertEqual(leapt(LAND, ("way", 3), NOTHING, many=9), (("none", 0), 2))

    def test_a_turn_on_the_first_day(self):
        self.assertEqual(leapt(LAND, ("none", 1), GRANTED, many=9), (("way", 0), 1))
        self.assertEqual(leapt(LAND, ("way", 1), ENDED, many=9), (("none", 0), 1))
        self.assertEqual(leapt(LAND, ("way", 1), ONE_HAND, many=9), (("none", 0), 1))

    def test_none_where_there_is_no_turn(self):
        for word, seen in [("way", GRANTED), ("none", ENDED), ("none", ONE_HAND), ("none", NOTHING),
                           ("none", LEAVE), ("way", USED), ("way", LEAVE)]:
            for days, many in itertools.product(range(3), (1, 2, 9, FAR)):
                told = leapt(LAND, (word, days), seen, many=many)
                self.assertEqual(told, ((word, 0), None))
                self.assertIsNone(told[1])

    def test_one_day_where_many_is_left_out(self):
        for stand, seen in itertools.product(stands_of(LAND), ALL_SEEN):
            told, turn = leapt(LAND, stand, seen)
            self.assertEqual(told, step(LAND, stand, seen))
            self.assertEqual(turn, None if told[0] == stand[0] else 1)

    def test_far(self):
        land = Land(12, "ann", grow=MOST, lapse=MOST - 7)
        for many in (MOST, FAR, BIG):
            self.assertEqual(leapt(land, ("none", 0), USED, many=many), (("way", 0), MOST))
            self.assertEqual(leapt(land, ("none", 5), USED, many=many), (("way", 0), MOST - 5))
            self.assertEqual(leapt(land, ("way", 0), NOTHING, many=many), (("none", 0), MOST - 7))
            self.assertEqual(leapt(land, ("way", 3), NOTHING, many=many), (("none", 0), MOST - 10))
            self.assertEqual(leapt(land, ("none", 7), NOTHING, many=many), (("none", 0), None))
            self.assertEqual(leapt(land, ("way", 7), LEAVE, many=many), (("way", 0), None))
        told = leapt(land, ("none", 1), USED, many=MOST - 2)
        self.assertEqual(told, (("none", MOST - 1), None))
        told = leapt(land, ("way", 1), NOTHING, many=MOST - 9)
        self.assertEqual(told, (("way", MOST - 8), None))

    def test_by_names(self):
        told = leapt(land=LAND, stand=("none", 0), seen=USED, many=3)
        self.assertEqual(told, (("way", 0), 3))
        with self.assertRaises(TypeError):
            leapt(LAND, ("none", 0), USED, 3)


if __name__ == "__main__":
    unittest.main()
