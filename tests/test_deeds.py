"""[7], [2]: what is a deed of a land, and the number of the first part that isn't such."""

import copy
import itertools
import unittest

from oldways.deeds import look_deed
from oldways.errors import NoDeed
from oldways.land import Land
from tests.anything import BIG, DEEP, LISTS, NOT_TUPLES, NOT_WHOLE, TEXTS, TUPLES, WIDE

CELLS = 100
LAND = Land(CELLS, "ann")
LAST = 10 ** 30

SALE = ("sale", 3, (4, 5), "bob")
GRANT = ("grant", 3, "ann", (0, 5), (5, 7))
END = ("end", 3, "ann", (0, 5), (5, 7))
USE = ("use", 3, 8, (0, 5), (5, 7), False)
LEAVE = ("use", 3, 8, (0, 5), (5, 7), True)
DEEDS = (SALE, GRANT, END, USE, LEAVE)

# What each part of each kind of deed is.
PARTS = {
    "sale": ("kind", "day", "stretch", "hand"),
    "grant": ("kind", "day", "hand", "stretch", "stretch"),
    "end": ("kind", "day", "hand", "stretch", "stretch"),
    "use": ("kind", "first", "day", "stretch", "stretch", "leave"),
}
RIGHT = {
    "day": (8, 9, LAST - 1, LAST),
    "first": (0, 1, 7, 8),
    "hand": ("a", "z", "bob", "abcdefgh"),
    "stretch": ((0, 1), (0, CELLS), (CELLS - 1, 1), (50, 50), (4, 5)),
    "leave": (True, False),
}
WRONG_DAYS = (-1, -BIG, LAST + 1, 2 * LAST, BIG) + NOT_WHOLE
WRONG_HANDS = (
    "", "abcdefghi", "Bob", "bOb", "bo b", "bob ", " bob", "bob1", "bob\n", "b-b", "1", "{", "`",
    "a" * 4000, None, True, False, 0, 1, BIG, ("bob",), ["bob"], ("b", "o"),
) + LISTS + TUPLES + DEEP
BEYOND = ((CELLS, 1), (CELLS - 1, 2), (0, CELLS + 1), (BIG, 1), (0, BIG), (BIG, BIG), (50, 51))
WRONG_STRETCHES = BEYOND + NOT_TUPLES + TUPLES + DEEP + WIDE + (
    (-1, 1), (-1, 2), (0, 0), (0, -1), (5, 0), (True, 1), (False, 1), (0, True), (True, True),
    (0, 1, 1), (0,), [0, 1], (None, 1), (0, None), ("0", 1), (0, "1"), ((0,), 1), (0, [1]), "0+1",
)
WRONG = {
    "kind": ("", "Sale", "sales", "sale ", " sale", "way", "none", "told", "a" * 4000, None, True,
             0, 1, (), [], ("sale",), ["sale"]) + DEEP,
    "day": WRONG_DAYS,
    "first": WRONG_DAYS,
    "hand": WRONG_HANDS,
    "stretch": WRONG_STRETCHES,
    "leave": (0, 1, -1, 2, BIG, None, "", "leave", "True") + LISTS + TUPLES + DEEP,
}


def put(deed, number, worth):
    """A deed with one part put otherwise."""
    return deed[:number] + (worth,) + deed[number + 1:]


class DeedCase(unittest.TestCase):
    def assert_no_deed(self, number, thing, land=LAND):
        with self.assertRaises(NoDeed) as caught:
            look_deed(land, thing)
        self.assertEqual(caught.exception.number, number, thing)
        self.assertIs(type(caught.exception.number), int)


class TestRight(unittest.TestCase):
    def test_each_kind(self):
        for deed in DEEDS:
            self.assertIsNone(look_deed(LAND, deed))

    def test_each_right_part(self):
        for deed in DEEDS:
            for number, part in enumerate(PARTS[deed[0]]):
                for worth in RIGHT.get(part, ()):
                    self.assertIsNone(look_deed(LAND, put(deed, number, worth)))

    def test_stretches_alike_and_over_one_another(self):
        for froms, overs in itertools.product([(0, 5), (3, 5), (4, 1), (0, CELLS)], repeat=2):
            for deed in (GRANT, END, USE, LEAVE):
                self.assertIsNone(look_deed(LAND, put(put(deed, 3, froms), 4, overs)))

    def test_a_use_of_one_day(self):
        for day in (0, 1, 8, LAST):
            self.assertIsNone(look_deed(LAND, ("use", day, day, (0, 1), (1, 1), True)))

    def test_a_use_of_all_days(self):
        self.assertIsNone(look_deed(LAND, ("use", 0, LAST, (0, 1), (1, 1), False)))

    def test_day_0_and_the_last_one(self):
        for day in (0, LAST):
            for deed in (SALE, GRANT, END):
                self.assertIsNone(look_deed(LAND, put(deed, 1, day)))

    def test_lands_of_one_cell_and_of_the_most(self):
        self.assertIsNone(look_deed(Land(1, "ann"), ("sale", 0, (0, 1), "ann")))
        most = 10 ** 30
        for stretch in [(0, most), (most - 1, 1), (10 ** 29, 9 * 10 ** 29)]:
            self.assertIsNone(look_deed(Land(most, "ann"), ("sale", 0, stretch, "ann")))

    def test_by_names(self):
        self.assertIsNone(look_deed(land=LAND, thing=SALE))


class TestFirstPart(DeedCase):
    def test_what_is_no_tuple(self):
        for thing in NOT_TUPLES + tuple(list(deed) for deed in DEEDS) + ("sale", "use"):
            self.assert_no_deed(0, thing)

    def test_another_first_part(self):
        for deed in DEEDS:
            for worth in WRONG["kind"]:
                self.assert_no_deed(0, put(deed, 0, worth))
        for thing in TUPLES + DEEP + WIDE:
            self.assert_no_deed(0, thing)

    def test_not_as_many_parts(self):
        for deed in DEEDS:
            for many in range(len(deed)):
                self.assert_no_deed(0, deed[:many])
            for more in (None, True, 0, "leave", (0, 1), []):
                self.assert_no_deed(0, deed + (more,))
            self.assert_no_deed(0, deed[:1] + (0,) * 298)

    def test_the_parts_of_another_kind(self):
        for one, other in itertools.permutations(["sale", "grant", "use"], 2):
            for deed in DEEDS:
                if deed[0] == one:
                    self.assert_no_deed(0, put(deed, 0, other))

    def test_a_wrong_number_of_parts_ahead_of_wrong_parts(self):
        self.assert_no_deed(0, ("sale", -1))
        self.assert_no_deed(0, ("sale", -1, None, None, None))
        self.assert_no_deed(0, ("use", 8, 3, None, None))


class TestEachPart(DeedCase):
    def test_each_wrong_part(self):
        for deed in DEEDS:
            for number, part in enumerate(PARTS[deed[0]]):
                for worth in WRONG[part]:
                    self.assert_no_deed(number, put(deed, number, worth))

    def test_truths_where_a_number_is_due(self):
        self.assert_no_deed(1, ("sale", True, (4, 5), "bob"))
        self.assert_no_deed(1, ("grant", False, "ann", (0, 5), (5, 7)))
        self.assert_no_deed(2, ("use", 0, True, (0, 5), (5, 7), True))
        self.assert_no_deed(2, ("use", 1, True, (0, 5), (5, 7), True))
        self.assert_no_deed(2, ("sale", 3, (4, True), "bob"))
        self.assert_no_deed(3, ("end", 3, "ann", (False, 5), (5, 7)))

    def test_numbers_where_a_truth_is_due(self):
        self.assert_no_deed(5, USE[:5] + (0,))
        self.assert_no_deed(5, USE[:5] + (1,))

    def test_days_beside_the_bounds(self):
        for deed in DEEDS:
            self.assert_no_deed(1, put(deed, 1, -1))
            self.assert_no_deed(1, put(deed, 1, LAST + 1))
        self.assert_no_deed(2, put(USE, 2, LAST + 1))
        self.assert_no_deed(2, ("use", 0, -1, (0, 5), (5, 7), True))

    def test_stretches_beyond_the_land(self):
        for stretch in BEYOND:
            self.assert_no_deed(2, put(SALE, 2, stretch))
            for deed in (GRANT, END, USE, LEAVE):
                self.assert_no_deed(3, put(deed, 3, stretch))
                self.assert_no_deed(4, put(deed, 4, stretch))

    def test_the_same_deed_of_another_land(self):
        deed = ("sale", 0, (11, 1), "bob")
        self.assertIsNone(look_deed(Land(12, "ann"), deed))
        self.assert_no_deed(2, deed, Land(11, "ann"))
        most = 10 ** 30
        self.assert_no_deed(2, ("sale", 0, (most, 1), "bob"), Land(most, "ann"))
        self.assert_no_deed(2, ("sale", 0, (0, most + 1), "bob"), Land(most, "ann"))

    def test_a_last_day_below_the_first(self):
        for first, last in [(1, 0), (8, 7), (LAST, LAST - 1), (LAST, 0)]:
            for leave in (True, False):
                self.assert_no_deed(2, ("use", first, last, (0, 5), (5, 7), leave))


class TestFirstOfSeveral(DeedCase):
    def test_the_first_wrong_part_is_told(self):
        for deed in DEEDS:
            wrong = [WRONG[part][0] for part in PARTS[deed[0]]]
            for number in range(len(deed)):
                self.assert_no_deed(number, deed[:number] + tuple(wrong[number:]))
                for later in range(number + 1, len(deed)):
                    two = put(put(deed, later, wrong[later]), number, wrong[number])
                    self.assert_no_deed(number, two)

    def test_a_last_day_below_the_first_ahead_of_what_follows(self):
        for number in (3, 4, 5):
            self.assert_no_deed(2, put(put(USE, 2, 2), number, None))

    def test_a_wrong_first_day_ahead_of_the_last_one(self):
        self.assert_no_deed(1, ("use", LAST + 1, 3, (0, 5), (5, 7), True))
        self.assert_no_deed(1, ("use", "3", 2, (0, 5), (5, 7), True))
        self.assert_no_deed(1, ("use", None, None, (0, 5), (5, 7), True))
        self.assert_no_deed(1, ("use", True, 0, (0, 5), (5, 7), True))

    def test_any_thing_in_any_place(self):
        for deed in DEEDS:
            for thing in DEEP + WIDE + TEXTS + LISTS:
                self.assert_no_deed(1, deed[:1] + (thing,) * (len(deed) - 1))

    def test_what_is_handed_in_stays(self):
        for thing in ([["sale"], 3], ("sale", [3, [4]], (4, 5), "bob"), ["sale", 3, [4, 5], "bob"]):
            before = copy.deepcopy(thing)
            with self.assertRaises(NoDeed):
                look_deed(LAND, thing)
            self.assertEqual(thing, before)


if __name__ == "__main__":
    unittest.main()
