"""[6], [2]: hands and land."""

import inspect
import unittest

from oldways.errors import NoLand
from oldways.land import Land, is_hand
from tests.anything import BIG, DEEP, LISTS, NOT_WHOLE, TUPLES, WIDE

PARTS = ("cells", "hand", "grow", "lapse", "roads")
RIGHT = {"cells": 100, "hand": "ann", "grow": 3, "lapse": 4, "roads": ((2, 3), (9, 1))}
OTHER = {"cells": 101, "hand": "bob", "grow": 4, "lapse": 3, "roads": ((2, 3), (9, 2))}
EIGHT = tuple((2 * at, 1) for at in range(8))
NINE = tuple((2 * at, 1) for at in range(9))


def land_of(**parts):
    """A right land but for the parts told."""
    return Land(**{**RIGHT, **parts})


class TestIsHand(unittest.TestCase):
    def test_hands(self):
        for thing in ["a", "z", "ann", "abcdefgh", "zzzzzzzz", "aaaaaaa", "ijklmnop", "qrstuvwx"]:
            self.assertIs(is_hand(thing), True, thing)

    def test_none_and_nine_letters(self):
        for thing in ["", "abcdefghi", "a" * 9, "a" * 100, "a" * 4000]:
            self.assertIs(is_hand(thing), False, thing)

    def test_another_sign_at_any_place(self):
        for sign in "AZQ09 -_.,;:+*/`{|}~@[^!'\"\\\n":
            for at in range(5):
                thing = "abcd"[:at] + sign + "abcd"[at:]
                self.assertIs(is_hand(thing), False, thing)
            self.assertIs(is_hand(sign), False, sign)

    def test_a_line_end(self):
        for thing in ["\n", "ann\n", "\nann", "an\nn", "abcdefgh\n", "ann ", " ann"]:
            self.assertIs(is_hand(thing), False, thing)

    def test_small_letters_that_are_not_a_to_z(self):
        for thing in ["\u00e4", "ann\u00e9", "\u017f", "\u03b1", "\u00aa"]:
            self.assertIs(is_hand(thing), False, thing)

    def test_what_is_no_text(self):
        things = (None, True, False, 0, 1, BIG, ("ann",), ["ann"], ("a", "b"), ["a"])
        for thing in things + TUPLES + DEEP + WIDE + LISTS:
            self.assertIs(is_hand(thing), False, thing)

    def test_by_name_and_unchanged(self):
        self.assertIs(is_hand(thing="ann"), True)
        thing = ["ann", ["bob"]]
        self.assertIs(is_hand(thing), False)
        self.assertEqual(thing, ["ann", ["bob"]])


class LandCase(unittest.TestCase):
    def assert_no_land(self, part, *told, **parts):
        with self.assertRaises(NoLand) as caught:
            Land(*told, **parts)
        self.assertEqual(caught.exception.part, part, (told, parts))

    def assert_wrong(self, part, thing):
        """That a land that is right but for one part is refused by this part."""
        self.assert_no_land(part, **{**RIGHT, part: thing})


class TestParts(LandCase):
    def test_cells(self):
        for cells in (1, 2, 12, 10 ** 30 - 1, 10 ** 30):
            self.assertEqual(Land(cells, "ann").cells(), cells)
        for cells in (0, -1, 10 ** 30 + 1, BIG, -BIG) + NOT_WHOLE:
            self.assert_wrong("cells", cells)

    def test_hand(self):
        for hand in ("a", "ann", "abcdefgh"):
            self.assertEqual(Land(12, hand).hand(), hand)
        wrong = ("", "abcdefghi", "Ann", "an n", "ann1", "ann\n", None, True, 0, 1)
        for hand in wrong + LISTS + TUPLES + DEEP + (["ann"], ("ann",)):
            self.assert_wrong("hand", hand)

    def test_grow_and_lapse(self):
        for days in (1, 2, 20, 10 ** 12 - 1, 10 ** 12):
            self.assertEqual(Land(12, "ann", grow=days).grow(), days)
            self.assertEqual(Land(12, "ann", lapse=days).lapse(), days)
        for days in (0, -1, 10 ** 12 + 1, BIG, -BIG) + NOT_WHOLE:
            self.assert_wrong("grow", days)
            self.assert_wrong("lapse", days)

    def test_left_out(self):
        land = Land(12, "ann")
        self.assertEqual((land.grow(), land.lapse(), land.roads()), (20, 20, ()))
        land = Land(12, "ann", grow=7)
        self.assertEqual((land.grow(), land.lapse()), (7, 20))
        land = Land(12, "ann", lapse=7)
        self.assertEqual((land.grow(), land.lapse()), (20, 7))

    def test_told_as_handed_in(self):
        land = Land(**RIGHT)
        for part in PARTS:
            self.assertEqual(getattr(land, part)(), RIGHT[part])
            self.assertIs(type(getattr(land, part)()), type(RIGHT[part]))

    def test_by_places_and_by_names(self):
        self.assertEqual(Land(12, "ann"), Land(cells=12, hand="ann"))
        self.assertEqual(Land(12, hand="ann"), Land(hand="ann", cells=12))
        with self.assertRaises(TypeError):
            Land(12, "ann", 5)

    def test_defined_in_the_class_itself(self):
        for name in PARTS + ("__init__", "__eq__", "__repr__"):
            self.assertTrue(inspect.isfunction(vars(Land).get(name)), name)


class TestRoads(LandCase):
    def test_roads(self):
        for roads in [(), ((0, 1),), ((99, 1),), ((0, 100),), ((0, 3), (4, 96)), EIGHT]:
            self.assertEqual(land_of(roads=roads).roads(), roads)

    def test_the_whole_of_a_land(self):
        self.assertEqual(Land(1, "ann", roads=((0, 1),)).roads(), ((0, 1),))
        most = 10 ** 30
        self.assertEqual(Land(most, "ann", roads=((0, most),)).roads(), ((0, most),))
        self.assertEqual(Land(most, "ann", roads=((most - 1, 1),)).roads(), ((most - 1, 1),))

    def test_nine(self):
        self.assert_wrong("roads", NINE)
        self.assert_wrong("roads", ((0, 1),) * 9)
        self.assert_wrong("roads", tuple((2 * at, 1) for at in range(40)))

    def test_not_in_order(self):
        self.assert_wrong("roads", ((9, 1), (2, 3)))
        self.assert_wrong("roads", EIGHT[::-1])

    def test_touching(self):
        self.assert_wrong("roads", ((0, 1), (1, 1)))
        self.assert_wrong("roads", ((0, 3), (5, 2), (7, 1)))

    def test_over_one_another(self):
        self.assert_wrong("roads", ((0, 3), (2, 3)))
        self.assert_wrong("roads", ((0, 9), (2, 3)))
        self.assert_wrong("roads", ((2, 3), (2, 3)))
        self.assert_wrong("roads", ((2, 3), (2, 4)))

    def test_beyond_the_land(self):
        for roads in [((100, 1),), ((99, 2),), ((0, 101),), ((0, 1), (98, 3)), ((0, 1), (200, 1))]:
            self.assert_wrong("roads", roads)
        self.assert_no_land("roads", 1, "ann", roads=((1, 1),))
        self.assert_no_land("roads", 10 ** 30, "ann", roads=((10 ** 30, 1),))
        self.assert_wrong("roads", ((BIG, BIG),))

    def test_no_tuple(self):
        wrong = ([], [(2, 3)], [(2, 3), (9, 1)], None, True, False, 0, 1, "", "ann", "2+3")
        for roads in wrong + LISTS + (WIDE[1], WIDE[2]):
            self.assert_wrong("roads", roads)

    def test_no_stretches_in_it(self):
        wrong = (None, True, 0, 1, "", "2+3", (), (9,), (9, 0), (-1, 1), (9, 1, 1), [9, 1])
        for thing in wrong + ((9, True), (True, 1), (9, None), ("9", 1), (9, [1])) + DEEP:
            self.assert_wrong("roads", (thing,))
            self.assert_wrong("roads", ((2, 3), thing))
            self.assert_wrong("roads", (thing, (50, 1)))
        self.assert_wrong("roads", (2, 3))
        self.assert_wrong("roads", (False, True))

    def test_truths_that_would_be_right_as_numbers(self):
        self.assert_wrong("roads", ((False, 1),))
        self.assert_wrong("roads", ((0, True),))


class TestFirstOfSeveral(LandCase):
    def test_the_first_wrong_part_is_told(self):
        wrong = {"cells": 0, "hand": "", "grow": 0, "lapse": 0, "roads": []}
        for at, part in enumerate(PARTS):
            self.assert_no_land(part, **{**RIGHT, **{name: wrong[name] for name in PARTS[at:]}})
            for later in PARTS[at + 1:]:
                both = {part: wrong[part], later: wrong[later]}
                self.assert_no_land(part, **{**RIGHT, **both})

    def test_roads_beyond_wrong_cells(self):
        for cells in (None, "12", True, [], 0):
            self.assert_no_land("cells", cells, "ann", roads=((0, 1),))

    def test_what_is_refused_stays(self):
        things = [[1, [2]], "ann"]
        self.assert_wrong("cells", things)
        self.assert_wrong("roads", ((0, things),))
        self.assertEqual(things, [[1, [2]], "ann"])


class TestSame(unittest.TestCase):
    def test_a_like_land(self):
        self.assertTrue(Land(**RIGHT) == Land(**RIGHT))
        self.assertFalse(Land(**RIGHT) != Land(**RIGHT))
        self.assertTrue(Land(12, "ann") == Land(12, "ann", grow=20, lapse=20, roads=()))
        land = Land(12, "ann")
        self.assertTrue(land == land)
        self.assertFalse(land != land)

    def test_another_one_of_the_five(self):
        land = Land(**RIGHT)
        for part in PARTS:
            other = land_of(**{part: OTHER[part]})
            self.assertIs(land == other, False, part)
            self.assertIs(other == land, False, part)
            self.assertIs(land != other, True, part)
        self.assertTrue(land != land_of(roads=()))

    def test_any_other_thing(self):
        land = Land(12, "ann")
        things = (None, True, 12, "ann", "Land(12 cells of ann)", repr(land), (), [])
        same_parts = ((12, "ann"), (12, "ann", 20, 20, ()), [12, "ann", 20, 20, ()], {})
        for thing in things + same_parts + DEEP + (Land, object()):
            self.assertIs(land == thing, False)
            self.assertIs(thing == land, False)
            self.assertIs(land != thing, True)

    def test_repr(self):
        self.assertEqual(repr(Land(12, "ann")), "Land(12 cells of ann)")
        self.assertEqual(repr(Land(1, "b")), "Land(1 cells of b)")
        self.assertEqual(repr(Land(**RIGHT)), "Land(100 cells of ann)")
        self.assertEqual(repr(Land(10 ** 30, "abcdefgh")), f"Land({10 ** 30} cells of abcdefgh)")

    def test_two_lands_share_nothing(self):
        one, other = Land(12, "ann", grow=3), Land(13, "bob", lapse=4, roads=((0, 2),))
        told = (one.cells(), one.hand(), one.grow(), one.lapse(), one.roads())
        self.assertEqual(told, (12, "ann", 3, 20, ()))
        told = (other.cells(), other.hand(), other.grow(), other.lapse(), other.roads())
        self.assertEqual(told, (13, "bob", 20, 4, ((0, 2),)))


if __name__ == "__main__":
    unittest.main()
