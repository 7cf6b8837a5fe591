"""[24], [23], [2]: the desk, which answers texts to rows."""

import inspect
import itertools
import random
import unittest

from oldways.book import Book
from oldways.desk import Desk
from oldways.errors import NoCell, NoDeed, NoLand, NoText, TooMany
from oldways.freed import freed
from oldways.hands import hand_at
from oldways.land import Land
from oldways.maps import quiet, ways
from oldways.pairs import spans, stand
from oldways.roads import open_cells
from oldways.texts import show_deed
from oldways.titles import title, want
from tests.anything import ANYTHING, BIG
from tests.slow import any_deed, lies_in

LAST = 10 ** 30
DEEDS = {
    "sale": "sale 0 4+4 bob",
    "use": "use 1 3 5+1 1+3",
    "leave": "use 6 8 5+1 1+3 leave",
    "grant": "grant 2 ann 6+1 1+2",
    "end": "end 9 bob 4+4 0+4",
}


def desk_of(*rows, **named):
    """A desk of twelve cells with a road on the left that was told some deeds."""
    desk = Desk(12, "ann", **{"grow": 3, "lapse": 4, "roads": ((0, 1),), **named})
    for row in rows:
        desk.say("told " + row)
    return desk


def full_desk():
    return desk_of(*DEEDS.values())


class DeskCase(unittest.TestCase):
    def assert_says(self, desk, *pairs):
        for row, answer in pairs:
            self.assertEqual(desk.say(row), answer, row)
            self.assertIs(type(desk.say(row)), str)

    def assert_refused(self, error, worth, desk, row):
        fields = {NoText: "place", NoCell: "cell", NoDeed: "number", TooMany: "most"}
        before = desk.book()
        with self.assertRaises(error) as caught:
            desk.say(row)
        self.assertIs(type(caught.exception), error)
        self.assertEqual(getattr(caught.exception, fields[error]), worth, row)
        self.assertIs(type(getattr(caught.exception, fields[error])), int)
        self.assertEqual(desk.book(), before)


class TestTelling(DeskCase):
    def test_new_and_same(self):
        desk = desk_of()
        rows = [("told sale 0 4+4 bob", "new"), ("told sale 0 4+4 bob", "same"), ("back sale 0 4+4 bob", "new"),
                ("back sale 0 4+4 bob", "same"), ("told sale 0 4+4 bob", "same"),
                ("back use 1 3 5+1 1+3 leave", "same"), ("told use 1 3 5+1 1+3 leave", "same"),
                ("told use 1 3 5+1 1+3", "new"), ("back end 9 bob 4+4 0+4", "same"), ("deeds", "use 1 3 5+1 1+3")]
        for row, answer in rows:
            self.assertEqual(desk.say(row), answer, row)

    def test_each_kind_of_deed(self):
        for text in DEEDS.values():
            desk = desk_of()
            self.assertEqual(desk.say("told " + text), "new")
            self.assertEqual(desk.say("deeds"), text)
            self.assertEqual([show_deed(deed) for deed in desk.book().told()], [text])
            self.assertEqual(desk.say("back " + text), "new")
            self.assertEqual(desk.say("deeds"), "-")
            self.assertEqual([show_deed(deed) for deed in desk.book().back()], [text])

    def test_what_is_told_later_counts(self):
        desk = desk_of("sale 0 4+4 bob")
        self.assert_says(desk, ("pair 5 1 3", "none 0"), ("why 5 1 3", "want -1 0-3"), ("count 3", "0"), ("open 5 3", "no"))
        desk.say("told use 1 3 5+1 1+3")
        self.assert_says(desk, ("pair 5 1 3", "way 0"), ("why 5 1 3", "use 1 3 5+1 1+3"), ("count 3", "3"), ("open 5 3", "yes"))
        desk.say("back use 1 3 5+1 1+3")
        self.assert_says(desk, ("pair 5 1 3", "none 0"), ("why 5 1 3", "want -1 0-3"), ("count 3", "0"), ("open 5 3", "no"))


class TestAsking(DeskCase):
    def test_pair(self):
        self.assert_says(full_desk(), ("pair 5 1 0", "none 0"), ("pair 5 1 1", "none 1"), ("pair 5 1 2", "none 2"),
                         ("pair 5 1 3", "way 0"), ("pair 5 1 5", "way 2"), ("pair 5 1 8", "way 0"), ("pair 5 1 9", "none 0"),
                         ("pair 1 5 3", "none 0"), ("pair 1 1 3", "none 0"), ("pair 6 1 2", "way 0"), (f"pair 6 1 {BIG}", "none 0"))

    def test_spans(self):
        self.assert_says(full_desk(), ("spans 5 1", "3-8"), ("spans 6 2", "2-5"), ("spans 6 3", "never"), ("spans 4 4", "never"))
        desk = desk_of("sale 0 4+4 bob", "grant 0 ann 4+4 1+3", "grant 9 ann 4+1 1+1", f"grant {LAST} ann 4+1 1+1")
        self.assert_says(desk, ("spans 4 1", f"0-3 9-12 {LAST}-{LAST + 3}"), ("spans 4 2", "0-3"))

    def test_why_there_is_a_way(self):
        self.assert_says(full_desk(), ("why 5 1 3", "use 1 3 5+1 1+3"), ("why 6 1 5", "grant 2 ann 6+1 1+2"),
                         ("why 5 1 7", "use 1 3 5+1 1+3; use 6 8 5+1 1+3 leave"),
                         ("why 5 1 8", "use 1 3 5+1 1+3; use 6 8 5+1 1+3 leave"))

    def test_why_there_is_none(self):
        desk = full_desk()
        self.assert_says(desk, ("why 5 1 0", "want -1 0-0"), ("why 5 1 2", "want -1 0-0"), ("why 5 1 9", "want 9"),
                         ("why 5 1 12", "want 9 10-12"), ("why 6 1 6", "want 6"), ("why 6 1 7", "want 6 7-7"))
        desk = desk_of("sale 0 4+4 bob", "use 0 1 5+1 1+1", "use 3 4 5+1 1+1")
        self.assert_says(desk, ("why 5 1 1", "want -1"), ("why 5 1 4", "want -1 2-2"), ("why 5 1 7", "want -1 2-2 5-7"),
                         (f"why 5 1 {BIG}", f"want -1 2-2 5-{BIG}"))

    def test_hand(self):
        self.assert_says(full_desk(), ("hand 0 0", "ann"), ("hand 4 0", "bob"), ("hand 7 99", "bob"), (f"hand 8 {BIG}", "ann"))

    def test_count_quiet_free(self):
        self.assert_says(full_desk(), ("count 0", "0"), ("count 2", "2"), ("count 3", "5"), ("count 6", "3"), (f"count {BIG}", "0"),
                         ("quiet", "9"), ("free 1", "0"), ("free 3", "1"), (f"free {BIG}", "0"))
        self.assert_says(desk_of(), ("count 0", "0"), ("quiet", "0"), ("free 0", "0"))
        desk = desk_of("sale 0 1+1 bob", "sale 0 2+1 cid", "sale 0 3+1 dan", "grant 1 bob 0+1 1+1", "grant 1 cid 1+1 2+1",
                       "grant 1 cid 3+1 2+1", "grant 1 dan 0+1 3+1")
        self.assert_says(desk, ("free 1", "3"), ("count 1", "4"))

    def test_far_count(self):
        desk = Desk(LAST, "ann")
        desk.say(f"told sale 0 0+{10 ** 29} bob")
        desk.say(f"told grant 1 bob {10 ** 29}+{10 ** 29} 0+{10 ** 29}")
        self.assertEqual(desk.say("count 1"), str(10 ** 58))

    def test_open(self):
        self.assert_says(full_desk(), ("open 0 0", "yes"), ("open 3 0", "yes"), ("open 4 0", "no"), ("open 5 2", "no"),
                         ("open 5 3", "yes"), ("open 5 9", "no"), (f"open 3 {BIG}", "yes"), ("open 8 0", "no"))
        self.assert_says(desk_of(roads=()), ("open 3 0", "no"), (f"open 0 {BIG}", "no"))

    def test_deeds(self):
        self.assertEqual(desk_of().say("deeds"), "-")
        self.assertEqual(full_desk().say("deeds"), "; ".join(
            DEEDS[word] for word in ("end", "grant", "sale", "use", "leave")))
        desk = full_desk()
        desk.say("back grant 2 ann 6+1 1+2")
        self.assertEqual(desk.say("deeds"), "; ".join(DEEDS[word] for word in ("end", "sale", "use", "leave")))

    def test_as_the_book_itself_tells(self):
        chance = random.Random(241)
        for _ in range(25):
            book = Book(Land(4, "ann", grow=3, lapse=3, roads=((0, 1),)))
            desk = Desk(4, "ann", grow=3, lapse=3, roads=((0, 1),))
            for _ in range(12):
                deed = any_deed(chance, 4, 12)
                word, act = chance.choice([("told", book.tell), ("told", book.tell), ("back", book.take_back)])
                self.assertEqual(desk.say(f"{word} {show_deed(deed)}"), "new" if act(deed) else "same")
            self.assertEqual(desk.book(), book)
            self.assertEqual(desk.say("quiet"), str(quiet(book)))
            for x, y, day in itertools.product(range(4), range(4), range(0, 20, 3)):
                self.assertEqual(desk.say(f"pair {x} {y} {day}"), "{} {}".format(*stand(book, x, y, day)))
                rows = [f"{first}-{last}" for first, last in spans(book, x, y)]
                self.assertEqual(desk.say(f"spans {x} {y}"), " ".join(rows) or "never")
                deeds, gaps = title(book, x, y, day), want(book, x, y, day)
                why = "; ".join(map(show_deed, deeds)) if deeds is not None else None
                if why is None:
                    why = " ".join(["want", str(gaps[0])] + [f"{first}-{last}" for first, last in gaps[1]])
                self.assertEqual(desk.say(f"why {x} {y} {day}"), why)
                self.assertEqual(desk.say(f"hand {x} {day}"), hand_at(book, x, day))
                self.assertEqual(desk.say(f"count {day}"), str(ways(book, day).area()))
                self.assertEqual(desk.say(f"free {day}"), str(len(freed(book, day)[0])))
                is_open = any(lies_in(x, stretch) for stretch in open_cells(book, day))
                self.assertEqual(desk.say(f"open {x} {day}"), "yes" if is_open else "no")


class TestNoText(DeskCase):
    ROWS = ["pair 5 1 3", "spans 5 1", "why 5 1 3", "hand 5 3", "count 3", "quiet", "free 3", "open 5 3", "deeds"]
    ROWS += [f"{word} {text}" for word in ("told", "back") for text in DEEDS.values()]
    WRONG_NUMBERS = ["", "00", "01", "-1", "+1", "1.0", "a", "1a", "3\n", "\n3", "\u0663", "1" * 61, "0" * 60, "1_0", "4+5"]

    def test_what_is_no_text(self):
        for thing in ANYTHING + (["quiet"], ("quiet",), b"quiet"):
            if not isinstance(thing, str):
                self.assert_refused(NoText, 0, full_desk(), thing)

    def test_the_empty_text_and_other_first_words(self):
        for row in ["", " ", "  ", " quiet", "Quiet", "QUIET", "quie", "quiets", "quiet\n", "tell", "told\n", "tolds", "sale 0 4+4 bob",
                    "0", "-", "deed", "pairs 1 2 3", "\nquiet", "a" * 4000, " " * 4000]:
            self.assert_refused(NoText, 0, full_desk(), row)

    def test_cut_short(self):
        for row in self.ROWS:
            words = row.split(" ")
            for many in range(1, len(words)):
                # A use is whole without its last word, too, where that tells of leave.
                if words[many] != "leave":
                    self.assert_refused(NoText, many, full_desk(), " ".join(words[:many]))

    def test_a_word_too_many(self):
        for row in self.ROWS:
            many = len(row.split(" "))
            for more in ("", "3", "quiet", "leaves", "4+5"):
                self.assert_refused(NoText, many, full_desk(), f"{row} {more}")
            if "use" in row and "leave" not in row:
                self.assertIn(full_desk().say(row + " leave"), ("new", "same"))
                self.assert_refused(NoText, many + 1, full_desk(), row + " leave leave")
            else:
                self.assert_refused(NoText, many, full_desk(), row + " leave")

    def test_blanks_too_many(self):
        for row in self.ROWS:
            words = row.split(" ")
            for at in range(len(words) + 1):
                self.assert_refused(NoText, at, full_desk(), " ".join(words[:at] + [""] + words[at:]))

    def test_each_number_put_otherwise(self):
        for row in self.ROWS[:9]:
            words = row.split(" ")
            for at in range(1, len(words)):
                for word in self.WRONG_NUMBERS:
                    self.assert_refused(NoText, at, full_desk(), " ".join(words[:at] + [word] + words[at + 1:]))
                    # The first one that is wrong is told.
                    self.assert_refused(NoText, at, full_desk(), " ".join(words[:at] + [word] * (len(words) - at)))

    def test_each_word_of_a_deed_put_otherwise(self):
        for word, text in itertools.product(("told", "back"), DEEDS.values()):
            words = [word] + text.split(" ")
            for at in range(1, len(words)):
                for other in ("", "zed1", "04", "4+", "+4", "4+0", "1" * 61, "Tolds", "\n"):
                    self.assert_refused(NoText, at, full_desk(), " ".join(words[:at] + [other] + words[at + 1:]))
        self.assert_refused(NoText, 3, full_desk(), "told use 3 2 0+1 0+1")
        self.assert_refused(NoText, 2, full_desk(), f"told use {LAST + 1} {LAST + 1} 0+1 0+1")
        self.assert_refused(NoText, 3, full_desk(), f"back use {LAST} {LAST + 1} 0+1 0+1")
        self.assert_refused(NoText, 1, full_desk(), "told told sale 0 4+4 bob")

    def test_no_text_ahead_of_what_the_book_refuses(self):
        for row, place in [("pair 99 99 x", 3), ("spans 99 1 1", 3), ("why 99 1", 3), ("hand 99", 2), ("open 99", 2), ("open 99 01", 2),
                           ("told sale 0 99+9 Bob", 4), ("told sale 0 99+9", 4), ("told use 0 1 99+1 0+1 leave x", 7)]:
            self.assert_refused(NoText, place, full_desk(), row)

    def test_numbers_of_sixty_figures_and_of_sixty_one(self):
        low = 10 ** 59
        self.assert_says(full_desk(), (f"pair 5 1 {BIG}", "none 0"), (f"count {low}", "0"), (f"free {BIG}", "0"), (f"hand 3 {low}", "ann"))
        for row in ("count {}", "free {}", "pair 5 1 {}", "hand 5 {}", "open 5 {}", "why 5 1 {}"):
            self.assert_refused(NoText, len(row.split(" ")) - 1, full_desk(), row.format(BIG + 1))
            self.assert_refused(NoText, len(row.split(" ")) - 1, full_desk(), row.format("0" + str(low)))
        self.assert_refused(NoCell, BIG, full_desk(), f"pair {BIG} 1 3")
        self.assert_refused(NoText, 1, full_desk(), f"pair {BIG + 1} 1 3")


class TestRefused(DeskCase):
    def test_no_cell(self):
        desk = full_desk()
        for row, cell in [("pair 12 1 3", 12), ("pair 1 12 3", 12), ("pair 13 12 3", 13), ("spans 12 1", 12), ("spans 1 12", 12),
                          ("spans 14 12", 14), ("why 12 1 3", 12), ("why 1 12 3", 12), ("why 99 12 3", 99), ("hand 12 3", 12),
                          ("open 12 3", 12), (f"open {LAST} {BIG}", LAST)]:
            self.assert_refused(NoCell, cell, desk, row)

    def test_no_deed(self):
        desk = full_desk()
        for word in ("told", "back"):
            for text, number in [("sale 0 4+9 bob", 2), (f"sale 0 {BIG}+1 bob", 2), ("grant 0 ann 12+1 0+1", 3),
                                 ("end 0 ann 0+1 0+13", 4), ("use 0 1 13+1 0+1", 3), ("use 0 1 0+1 11+2 leave", 4)]:
                self.assert_refused(NoDeed, number, desk, f"{word} {text}")

    def test_too_many(self):
        desk = desk_of(*[f"sale {day} 0+1 bob" for day in range(20)])
        for day in range(20, 30):
            self.assertEqual(desk.say(f"back sale {day} 0+1 bob"), "same")
        for word in ("told", "back"):
            self.assert_refused(TooMany, 30, desk, f"{word} sale 30 0+1 bob")
            self.assert_refused(NoDeed, 2, desk, f"{word} sale 30 0+13 bob")
        self.assertEqual(desk.say("told sale 29 0+1 bob"), "same")
        self.assertEqual(desk.say("back sale 0 0+1 bob"), "new")
        self.assertEqual(len(desk.book()), 19)

    def test_no_land(self):
        for part, told in [("cells", (0, "ann")), ("hand", (12, "Ann")), ("cells", (True, "Ann"))]:
            with self.assertRaises(NoLand) as caught:
                Desk(*told)
            self.assertEqual(caught.exception.part, part)
        for part, named in [("grow", {"grow": 0, "lapse": 0}), ("lapse", {"lapse": True}), ("roads", {"roads": [(0, 1)]}),
                            ("roads", {"roads": ((0, 13),)})]:
            with self.assertRaises(NoLand) as caught:
                Desk(12, "ann", **named)
            self.assertEqual(caught.exception.part, part)

    def test_answered_behind_a_refusal(self):
        desk = full_desk()
        before = desk.say("deeds")
        for row in ["told sale 0 4+9 bob", "pair 12 1 3", "quiet x", "", None, "told use 9 8 0+1 0+1"]:
            with self.assertRaises((NoDeed, NoCell, NoText)):
                desk.say(row)
            self.assert_says(desk, ("deeds", before), ("pair 5 1 3", "way 0"), ("quiet", "9"))


class TestOwn(DeskCase):
    def test_two_desks_share_nothing(self):
        one, other = desk_of(), desk_of()
        one.say("told sale 0 4+4 bob")
        self.assertEqual((one.say("deeds"), other.say("deeds")), ("sale 0 4+4 bob", "-"))

    def test_the_book_told_is_a_copy(self):
        desk = desk_of("sale 0 4+4 bob")
        book = desk.book()
        self.assertIsNot(book, desk.book())
        self.assertEqual(book.land(), Land(12, "ann", grow=3, lapse=4, roads=((0, 1),)))
        book.tell(("end", 9, "bob", (4, 4), (0, 4)))
        book.take_back(("sale", 0, (4, 4), "bob"))
        self.assertEqual(desk.say("deeds"), "sale 0 4+4 bob")
        told = desk.book()
        desk.say("told end 9 bob 4+4 0+4")
        self.assertEqual(len(told), 1)

    def test_book_has_what_was_told_and_taken_back(self):
        desk = desk_of("sale 0 4+4 bob")
        desk.say("back end 9 bob 4+4 0+4")
        book = desk.book()
        self.assertIs(type(book), Book)
        self.assertEqual(book.told(), [("sale", 0, (4, 4), "bob")])
        self.assertEqual(book.back(), [("end", 9, "bob", (4, 4), (0, 4))])

    def test_names_and_defaults(self):
        self.assertEqual(Desk(12, "ann").book().land(), Land(12, "ann"))
        desk = Desk(roads=((0, 1),), lapse=4, grow=3, hand="ann", cells=12)
        self.assertEqual(desk.book(), desk_of().book())
        self.assertEqual(desk.say(row="quiet"), "0")
        with self.assertRaises(TypeError):
            Desk(12, "ann", 3)
        for name in "__init__ say book".split():
            self.assertTrue(inspect.isfunction(vars(Desk).get(name)), name)


if __name__ == "__main__":
    unittest.main()
