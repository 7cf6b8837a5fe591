"""[23], [2]: how a deed is written and read."""

import copy
import itertools
import unittest

from oldways.errors import NoText
from oldways.texts import read_deed, show_deed
from tests.anything import BIG, DEEP, LISTS, TRUTHS, TUPLES, WIDE

LAST = 10 ** 30

WRITTEN = [
    (("sale", 3, (4, 5), "bob"), "sale 3 4+5 bob"),
    (("grant", 3, "ann", (0, 5), (5, 7)), "grant 3 ann 0+5 5+7"),
    (("end", 3, "ann", (0, 5), (5, 7)), "end 3 ann 0+5 5+7"),
    (("use", 3, 8, (0, 5), (5, 7), False), "use 3 8 0+5 5+7"),
    (("use", 3, 8, (0, 5), (5, 7), True), "use 3 8 0+5 5+7 leave"),
    (("sale", 0, (0, 1), "a"), "sale 0 0+1 a"),
    (("sale", LAST, (BIG, BIG), "abcdefgh"), f"sale {LAST} {BIG}+{BIG} abcdefgh"),
    (("grant", LAST, "z", (BIG, 1), (0, BIG)), f"grant {LAST} z {BIG}+1 0+{BIG}"),
    (("use", 0, LAST, (0, 1), (0, 1), True), f"use 0 {LAST} 0+1 0+1 leave"),
    (("use", LAST, LAST, (0, 1), (0, 1), False), f"use {LAST} {LAST} 0+1 0+1"),
    (("use", 10, 10, (10, 20), (30, 40), True), "use 10 10 10+20 30+40 leave"),
    (("sale", 1, (0, 1), "leave"), "sale 1 0+1 leave"),
    (("grant", 1, "use", (0, 1), (0, 1)), "grant 1 use 0+1 0+1"),
    (("end", 1, "end", (7, 1), (7, 1)), "end 1 end 7+1 7+1"),
]
ROWS = [text.split(" ") for _, text in WRITTEN]

# What the words of each kind of deed are, by their number.
WORDS = {
    "sale": ("kind", "day", "stretch", "hand"),
    "grant": ("kind", "day", "hand", "stretch", "stretch"),
    "end": ("kind", "day", "hand", "stretch", "stretch"),
    "use": ("kind", "day", "last", "stretch", "stretch", "leave"),
}
WRONG_NUMBERS = (
    "", "00", "01", "007", "00" + "1" * 58, "-1", "-0", "+1", "1.0", "1e3", "1_0", "0x1", "a", "ann",
    "3a", "a3", "3,", "1/2", "1:", "\u0663", "\u00b2", "3\n", "\n3", "\t3", "10" + "0" * 59,
    "1" * 61, "9" * 4000, "None", "True",
)
WRONG_DAYS = WRONG_NUMBERS + (str(LAST + 1), str(BIG), "1" * 60, "4+5", "1+1")
WRONG = {
    "kind": ("", "Sale", "SALE", "sales", "sal", "told", "back", "leave", "0", "sale\n", "\nsale",
             "ends", "way", "sale\t", "+"),
    "day": WRONG_DAYS,
    "last": WRONG_DAYS,
    "hand": ("", "Ann", "ann1", "abcdefghi", "a-b", "ann\n", "\nann", "0", "4+5", "a\tb", "{", "`",
             "\u00e4"),
    "stretch": ("", "+", "4", "4+", "+5", "4+5+6", "4++5", "+4+5", "4+5+", "4-5", "4+0", "0+0",
                "4+00", "4+05", "04+5", "-4+5", "4+-5", "4+5\n", "a+5", "4+a", "4.5", "(4,5)",
                "4,5", "4+" + "1" * 61, "1" * 61 + "+5", "ann", "leave") + tuple(
                    f"{one}+5" for one in WRONG_NUMBERS) + tuple(
                    f"4+{one}" for one in WRONG_NUMBERS),
    "leave": ("", "Leave", "leave\n", "\nleave", "leav", "leaves", "by", "0", "True", "4+5"),
}


class TextCase(unittest.TestCase):
    def assert_no_text(self, place, thing):
        with self.assertRaises(NoText) as caught:
            read_deed(thing)
        self.assertEqual(caught.exception.place, place, thing)
        self.assertIs(type(caught.exception.place), int)


class TestShow(unittest.TestCase):
    def test_each_kind(self):
        for deed, text in WRITTEN:
            self.assertEqual(show_deed(deed), text)

    def test_by_name(self):
        self.assertEqual(show_deed(deed=("sale", 3, (4, 5), "bob")), "sale 3 4+5 bob")


class TestRead(unittest.TestCase):
    def assert_alike(self, told, deed):
        """That two deeds are alike with the kinds of all their parts."""
        self.assertEqual(repr(told), repr(deed))
        self.assertEqual(told, deed)

    def test_each_kind(self):
        for deed, text in WRITTEN:
            self.assert_alike(read_deed(text), deed)

    def test_the_very_deed_that_was_written(self):
        days = (0, 1, 9, 10, 10 ** 12, LAST - 1, LAST)
        stretches = ((0, 1), (9, 10), (10 ** 30, 10 ** 29), (BIG, BIG))
        for day, one, other in itertools.product(days, stretches, stretches):
            deeds = [("sale", day, one, "bob"), ("grant", day, "ann", one, other),
                     ("end", day, "b", one, other), ("use", day, LAST, one, other, True),
                     ("use", 0, day, one, other, False)]
            for deed in deeds:
                self.assert_alike(read_deed(show_deed(deed)), deed)

    def test_numbers_of_sixty_figures(self):
        low = 10 ** 59
        text = f"end 1 ann {low}+{BIG} 0+{low}"
        self.assert_alike(read_deed(text), ("end", 1, "ann", (low, BIG), (0, low)))

    def test_by_name(self):
        self.assert_alike(read_deed(text="sale 3 4+5 bob"), ("sale", 3, (4, 5), "bob"))

    def test_a_new_deed_each_time(self):
        for _, text in WRITTEN:
            self.assert_alike(read_deed(text), read_deed(text))


class TestRefused(TextCase):
    def test_what_is_no_text(self):
        things = (None, 0, 1, 3, -1, BIG) + TRUTHS + TUPLES + DEEP + WIDE[:2] + tuple(LISTS)
        for thing in things + (("sale", 3, (4, 5), "bob"), ["sale 3 4+5 bob"], ("sale 3 4+5 bob",)):
            self.assert_no_text(0, thing)

    def test_the_empty_text(self):
        self.assert_no_text(0, "")

    def test_each_wrong_word(self):
        for words in ROWS:
            for place, part in enumerate(WORDS[words[0]][:len(words)]):
                for wrong in WRONG[part]:
                    self.assert_no_text(place, " ".join(words[:place] + [wrong] + words[place + 1:]))
                    self.assert_no_text(place, " ".join(words[:place] + [wrong]))

    def test_another_word_in_the_place_of_leave(self):
        for wrong in WRONG["leave"]:
            self.assert_no_text(5, f"use 3 8 0+5 5+7 {wrong}")
            self.assert_no_text(5, f"use 3 8 0+5 5+7 {wrong} leave")

    def test_where_only_the_end_is_wanting(self):
        for words in ROWS:
            whole = 5 if words[0] == "use" else len(words)
            for many in range(whole):
                self.assert_no_text(many, " ".join(words[:many]))

    def test_a_word_too_many(self):
        for words in ROWS:
            text = " ".join(words)
            if len(words) != 5 or words[0] != "use":
                for more in ("leave", "", "0", "sale", "\n", " ", "a b"):
                    self.assert_no_text(len(words), f"{text} {more}")

    def test_empty_words(self):
        self.assert_no_text(0, " ")
        self.assert_no_text(0, "  ")
        self.assert_no_text(0, " " * 4000)
        for words in ROWS:
            self.assert_no_text(0, " " + " ".join(words))
            for place in range(1, len(words)):
                text = " ".join(words[:place] + [""] + words[place:])
                self.assert_no_text(place, text)
            self.assert_no_text(len(words), " ".join(words) + " ")
            for place in range(1, 4):
                self.assert_no_text(place, " ".join(words[:place]) + " ")

    def test_other_blanks(self):
        for sign in "\n\t\r\v\f_-,;":
            self.assert_no_text(0, f"sale{sign}3 4+5 bob")
            self.assert_no_text(1, f"sale 3{sign}4+5 bob")
            self.assert_no_text(2, f"sale 3 4+5{sign}bob")
            self.assert_no_text(3, f"sale 3 4+5 bob{sign}")

    def test_days_above_the_last(self):
        self.assert_no_text(1, f"sale {LAST + 1} 4+5 bob")
        self.assert_no_text(1, f"use {LAST + 1} {LAST + 1} 4+5 4+5")
        self.assert_no_text(2, f"use {LAST} {LAST + 1} 4+5 4+5")

    def test_a_second_day_below_the_first(self):
        for first, last in [(1, 0), (8, 7), (10, 9), (100, 20), (LAST, LAST - 1), (LAST, 0)]:
            self.assert_no_text(2, f"use {first} {last} 0+5 5+7")
            self.assert_no_text(2, f"use {first} {last} 0+5 5+7 leave")
            self.assert_no_text(2, f"use {first} {last}")
            self.assert_no_text(2, f"use {first} {last} x")

    def test_the_first_wrong_word_is_told(self):
        self.assert_no_text(0, "Sale x y z")
        self.assert_no_text(1, "sale x y z")
        self.assert_no_text(2, "sale 3 y Z")
        self.assert_no_text(3, "sale 3 4+5 Z z")
        self.assert_no_text(2, "grant 3 Ann y")
        self.assert_no_text(4, "use 3 8 0+5 5+0 by leave")

    def test_long_texts(self):
        self.assert_no_text(0, "a" * 4000)
        self.assert_no_text(1, "sale " + "1" * 3995)
        self.assert_no_text(3, "sale 3 4+5 " + "b" * 3980)
        self.assert_no_text(4, "sale 3 4+5 bob" + " x" * 1990)

    def test_any_thing_stays(self):
        thing = ["sale", [3, ("4+5", ["bob"])]]
        before = copy.deepcopy(thing)
        self.assert_no_text(0, thing)
        self.assertEqual(thing, before)


if __name__ == "__main__":
    unittest.main()
