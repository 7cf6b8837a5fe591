"""[10], [12], [3], [5], [8], [2]: how a pair stands, its spans, its next change."""

import itertools
import random
import unittest

from oldways.book import Book
from oldways.errors import NoCell, NoDay
from oldways.land import Land
from oldways.pairs import next_change, seen, spans, stand
from tests.anything import BIG, NOT_WHOLE
from tests.slow import any_book, books, slow_seen, slow_stands

LAST = 10 ** 30
MOST = 10 ** 12
# Cells 0 to 5 are ann's, 6 to 11 bob's, from day 0 on.
LAND = Land(12, "ann", grow=3, lapse=4)
SOLD = ("sale", 0, (6, 6), "bob")
NO_DAYS = (-1, -LAST, -BIG) + NOT_WHOLE
NO_CELLS = (12, 13, LAST, BIG, -1, -BIG) + NOT_WHOLE


def book_of(*deeds):
    """A book in which ann and bob hold half the land each."""
    return Book(LAND, [SOLD, *deeds])


def use(first, last, leave=False):
    return ("use", first, last, (0, 3), (6, 3), leave)


def grant(day, giver="bob"):
    return ("grant", day, giver, (0, 3), (6, 3))


def end(day, giver="ann"):
    return ("end", day, giver, (0, 3), (6, 3))


def spans_of(stands):
    """The spans of the days on which it stands as a way."""
    rows = []
    for day, (word, _) in enumerate(stands):
        if word == "way" and rows and rows[-1][1] == day - 1:
            rows[-1] = (rows[-1][0], day)
        elif word == "way":
            rows.append((day, day))
    return rows


def changes_of(stands):
    """The days from 1 on on which it turns."""
    return [day for day in range(1, len(stands)) if stands[day][0] != stands[day - 1][0]]


class TestSeen(unittest.TestCase):
    def assert_seen(self, book, day, told, x=0, y=6):
        truths = seen(book, x, y, day)
        self.assertEqual(truths, tuple(sign == "1" for sign in told), day)
        self.assertEqual([type(one) for one in truths], [bool] * 5)
        self.assertIs(type(truths), tuple)

    def test_nothing(self):
        self.assert_seen(book_of(), 0, "00000")
        self.assert_seen(Book(LAND), 0, "10000")

    def test_one_hand(self):
        book = book_of(("sale", 5, (0, 1), "bob"), ("sale", 7, (6, 1), "ann"))
        for day, told in [(4, "00000"), (5, "10000"), (6, "10000"), (7, "00000"), (BIG, "00000")]:
            self.assert_seen(book, day, told)

    def test_the_same_cell(self):
        deeds = [("grant", 3, "ann", (0, 3), (0, 3)), ("end", 3, "ann", (0, 3), (0, 3)),
                 ("use", 2, 3, (0, 3), (0, 3), False), ("use", 3, 4, (0, 3), (0, 3), True)]
        for day, told in [(1, "10000"), (2, "10010"), (3, "11111"), (4, "10001"), (5, "10000")]:
            self.assert_seen(book_of(*deeds), day, told, 1, 1)
            self.assert_seen(book_of(*deeds), day, told, 1, 2)

    def test_granted_on_its_day_alone(self):
        for day, told in [(2, "00000"), (3, "01000"), (4, "00000")]:
            self.assert_seen(book_of(grant(3)), day, told)

    def test_granted_by_who_holds_y_alone(self):
        for giver in ("ann", "cid", "bo", "bobb"):
            self.assert_seen(book_of(grant(3, giver)), 3, "00000")
        self.assert_seen(book_of(grant(3), grant(3, "ann")), 3, "01000")

    def test_granted_by_who_holds_y_on_this_day(self):
        sale = ("sale", 3, (6, 1), "cid")
        self.assert_seen(book_of(sale, grant(3, "cid")), 3, "01000")
        self.assert_seen(book_of(sale, grant(3, "bob")), 3, "00000")
        self.assert_seen(book_of(sale, grant(2, "bob")), 2, "01000")
        self.assert_seen(book_of(sale, grant(2, "cid")), 2, "00000")

    def test_ended_by_who_holds_x_alone(self):
        self.assert_seen(book_of(end(3)), 3, "00100")
        for day in (2, 4):
            self.assert_seen(book_of(end(3)), day, "00000")
        for giver in ("bob", "cid"):
            self.assert_seen(book_of(end(3, giver)), 3, "00000")
        sale = ("sale", 3, (0, 1), "cid")
        self.assert_seen(book_of(sale, end(3, "cid")), 3, "00100")
        self.assert_seen(book_of(sale, end(3, "ann")), 3, "00000")

    def test_a_hand_grants_and_ends_in_one_hand(self):
        deeds = [grant(3, "ann"), end(3, "ann")]
        self.assert_seen(Book(LAND, deeds), 3, "11100")

    def test_used_with_and_without_leave(self):
        book = book_of(use(3, 5), use(5, 7, True))
        for day, told in [(2, "00000"), (3, "00010"), (4, "00010"), (5, "00011"), (6, "00001"),
                          (7, "00001"), (8, "00000")]:
            self.assert_seen(book, day, told)

    def test_of_a_pair_in_both_stretches_alone(self):
        book = book_of(grant(3), end(3), use(3, 3), use(3, 3, True))
        for x, y in itertools.product(range(12), repeat=2):
            lies = x in range(0, 3) and y in range(6, 9)
            one = (x < 6) == (y < 6)
            self.assert_seen(book, 3, "01111" if lies else "10000" if one else "00000", x, y)

    def test_by_what_stands(self):
        book = book_of(grant(3), use(3, 5))
        book.take_back(grant(3))
        self.assert_seen(book, 3, "00010")
        book.take_back(SOLD)
        self.assert_seen(book, 3, "10010")

    def test_slowly(self):
        for book in books(25, 10):
            for x, y, day in itertools.product(range(4), range(4), range(20)):
                self.assertEqual(seen(book, x, y, day), slow_seen(book, x, y, day))

    def test_far(self):
        deeds = [("use", 0, LAST, (0, 1), (6, 1), True), ("grant", LAST, "bob", (0, 1), (6, 1)),
                 ("end", LAST, "ann", (0, 1), (6, 1)), ("sale", LAST, (6, 1), "bob")]
        self.assert_seen(book_of(*deeds), LAST, "01101")
        self.assert_seen(book_of(*deeds), LAST - 1, "00001")
        self.assert_seen(book_of(*deeds), LAST + 1, "00000")
        self.assert_seen(book_of(*deeds), BIG, "00000")


class TestStand(unittest.TestCase):
    def assert_stands(self, book, stands, x=0, y=6):
        """That it stands so on the first days, each a word's first letter and n."""
        words = {"w": "way", "n": "none"}
        wanted = [(words[one[0]], int(one[1:])) for one in stands.split()]
        self.assertEqual([stand(book, x, y, day) for day in range(len(wanted))], wanted)
        self.assertEqual(slow_stands(book, x, y, len(wanted)), wanted)

    def test_none_of_itself(self):
        self.assert_stands(book_of(), "n0 n0 n0")
        self.assertEqual(stand(book_of(), 0, 6, BIG), ("none", 0))

    def test_arises_by_use_and_lapses(self):
        self.assert_stands(book_of(use(1, 3)), "n0 n1 n2 w0 w1 w2 w3 n0 n0")
        self.assert_stands(book_of(use(0, 2)), "n1 n2 w0 w1 w2 w3 n0 n0")

    def test_a_day_too_few_makes_no_way(self):
        self.assert_stands(book_of(use(1, 2)), "n0 n1 n2 n0 n0")

    def test_a_break_begins_anew(self):
        self.assert_stands(book_of(use(0, 1), use(3, 5)), "n1 n2 n0 n1 n2 w0 w1")
        self.assert_stands(book_of(use(0, 1), use(2, 2, True), use(3, 5)), "n1 n2 n0 n1 n2 w0 w1")

    def test_uses_that_meet_are_unbroken(self):
        self.assert_stands(book_of(use(0, 1), use(2, 2)), "n1 n2 w0 w1")
        self.assert_stands(book_of(use(0, 1), use(1, 2)), "n1 n2 w0 w1")

    def test_leave_makes_no_way_but_keeps_one(self):
        self.assert_stands(book_of(use(0, 9, True)), "n0 n0 n0 n0 n0")
        self.assert_stands(book_of(grant(0), use(3, 4, True)), "w0 w1 w2 w0 w0 w1 w2 w3 n0")

    def test_granted_and_ended(self):
        self.assert_stands(book_of(grant(1), end(3)), "n0 w0 w1 n0 n0")
        self.assert_stands(book_of(grant(1), end(1)), "n0 w0 w1 w2 w3 n0")
        self.assert_stands(book_of(use(0, 4), end(1)), "n1 n0 n1 n2 w0 w1")
        self.assert_stands(book_of(use(0, 4), end(2)), "n1 n2 n0 n1 n2 n0")

    def test_falls_away_in_one_hand_and_does_not_come_back(self):
        sales = [("sale", 2, (6, 1), "ann"), ("sale", 3, (6, 1), "bob")]
        self.assert_stands(book_of(grant(0), *sales), "w0 w1 n0 n0 n0 n0")
        self.assert_stands(book_of(use(0, 5), *sales), "n1 n2 n0 n1 n2 w0 w1")
        self.assert_stands(book_of(grant(2, "ann"), *sales), "n0 n0 n0 n0 n0")

    def test_a_run_goes_on_when_sold_to_a_third_hand(self):
        for sold in ((0, 1), (6, 1)):
            book = book_of(use(0, 5), ("sale", 1, sold, "cid"), ("sale", 2, sold, "dan"))
            self.assert_stands(book, "n1 n2 w0 w0 w0 w0 w1")
        book = book_of(grant(0), ("sale", 1, (6, 1), "cid"), ("sale", 1, (0, 1), "dan"))
        self.assert_stands(book, "w0 w1 w2 w3 n0")

    def test_a_cell_with_itself(self):
        deeds = [("grant", 1, "ann", (0, 3), (0, 3)), ("use", 0, 9, (0, 3), (0, 3), False)]
        self.assert_stands(book_of(*deeds), "n0 n0 n0 n0 n0 n0", 1, 1)
        self.assertEqual(spans(book_of(*deeds), 1, 1), [])

    def test_from_x_over_y_not_the_other_way(self):
        self.assert_stands(book_of(grant(0, "bob")), "w0 w1", 0, 6)
        self.assert_stands(book_of(grant(0, "bob")), "n0 n0", 6, 0)

    def test_grow_and_lapse_of_one_day(self):
        book = Book(Land(12, "ann", grow=1, lapse=1), [SOLD, use(1, 2), use(4, 4)])
        self.assert_stands(book, "n0 w0 w0 n0 w0 n0 n0")
        self.assertEqual(spans(book, 0, 6), [(1, 2), (4, 4)])

    def test_grow_and_lapse_of_the_most_days(self):
        land = Land(12, "ann", grow=MOST, lapse=MOST)
        book = Book(land, [SOLD, ("use", 5, 5 + MOST - 1, (0, 1), (6, 1), False)])
        days = [(4, ("none", 0)), (5, ("none", 1)), (MOST + 3, ("none", MOST - 1)),
                (MOST + 4, ("way", 0)), (MOST + 5, ("way", 1)), (2 * MOST + 3, ("way", MOST - 1)),
                (2 * MOST + 4, ("none", 0))]
        for day, standing in days:
            self.assertEqual(stand(book, 0, 6, day), standing)
        self.assertEqual(spans(book, 0, 6), [(MOST + 4, 2 * MOST + 3)])
        short = Book(land, [SOLD, ("use", 5, 5 + MOST - 2, (0, 1), (6, 1), False)])
        self.assertEqual(spans(short, 0, 6), [])
        self.assertEqual(stand(short, 0, 6, MOST + 3), ("none", MOST - 1))
        self.assertEqual(stand(short, 0, 6, MOST + 4), ("none", 0))


class TestSpansAndChanges(unittest.TestCase):
    def test_spans(self):
        self.assertEqual(spans(book_of(), 0, 6), [])
        self.assertEqual(spans(book_of(use(1, 3)), 0, 6), [(3, 6)])
        self.assertEqual(spans(book_of(use(1, 3), end(5)), 0, 6), [(3, 4)])
        self.assertEqual(spans(book_of(grant(0), grant(4)), 0, 6), [(0, 7)])
        self.assertEqual(spans(book_of(grant(0), grant(5)), 0, 6), [(0, 3), (5, 8)])
        self.assertEqual(spans(book_of(grant(0), end(1), grant(2)), 0, 6), [(0, 0), (2, 5)])
        self.assertEqual(spans(book_of(grant(1), use(2, 9, True)), 0, 6), [(1, 12)])

    def test_next_change(self):
        book = book_of(use(1, 3), grant(9))
        days = [(0, 3), (1, 3), (2, 3), (3, 7), (6, 7), (7, 9), (8, 9), (9, 13), (12, 13), (13, None),
                (14, None), (LAST, None), (BIG, None)]
        for day, change in days:
            self.assertEqual(next_change(book, 0, 6, day), change, day)
        self.assertIsNone(next_change(book_of(), 0, 6, 0))

    def test_a_way_on_day_0_is_no_change_behind_it(self):
        self.assertEqual(next_change(book_of(grant(0)), 0, 6, 0), 4)

    def test_slowly(self):
        for book in books(60, 12):
            for x, y in itertools.product(range(4), repeat=2):
                stands = slow_stands(book, x, y, 30)
                self.assertEqual([stand(book, x, y, day) for day in range(30)], stands)
                self.assertEqual(spans(book, x, y), spans_of(stands))
                changes = changes_of(stands)
                for day in range(30):
                    later = [change for change in changes if change > day]
                    self.assertEqual(next_change(book, x, y, day), later[0] if later else None)

    def test_far(self):
        land = Land(LAST, "ann", grow=3, lapse=4)
        x, y = LAST - 1, LAST // 2
        deeds = [("sale", 0, (LAST // 3, LAST // 2), "bob"),
                 ("use", LAST - 2, LAST, (LAST - 9, 9), (0, LAST), False)]
        book = Book(land, deeds)
        self.assertEqual(spans(book, x, y), [(LAST, LAST + 3)])
        days = [(0, ("none", 0)), (LAST - 1, ("none", 2)), (LAST, ("way", 0)), (LAST + 3, ("way", 3)),
                (LAST + 4, ("none", 0)), (BIG, ("none", 0))]
        for day, standing in days:
            self.assertEqual(stand(book, x, y, day), standing)
        self.assertEqual(next_change(book, x, y, 0), LAST)
        self.assertEqual(next_change(book, x, y, LAST), LAST + 4)
        self.assertIsNone(next_change(book, x, y, LAST + 4))

    def test_used_on_all_days(self):
        book = book_of(use(0, LAST))
        self.assertEqual(spans(book, 0, 6), [(2, LAST + 3)])
        self.assertEqual(next_change(book, 0, 6, 2), LAST + 4)


class TestOrder(unittest.TestCase):
    """[3], [8]: nothing hangs on the order of telling, or on what is taken back."""

    def state(self, book):
        pairs = itertools.product(range(4), repeat=2)
        return [(spans(book, x, y), stand(book, x, y, 9)) for x, y in pairs]

    def test_told_late_and_in_any_order(self):
        chance = random.Random(3)
        for _ in range(40):
            whole = any_book(chance)
            deeds = whole.deeds()
            chance.shuffle(deeds)
            book = Book(whole.land())
            for deed in deeds + deeds[:3]:
                book.tell(deed)
            self.assertEqual(self.state(book), self.state(whole))

    def test_taken_back_ahead_of_being_told_and_behind(self):
        chance = random.Random(4)
        for _ in range(40):
            whole = any_book(chance)
            more = [deed for deed in any_book(chance).told() if not whole.stands(deed)]
            book = Book(whole.land(), whole.deeds())
            for at, deed in enumerate(more):
                acts = (book.tell, book.take_back)
                for act in acts[::-1] if at % 2 else acts:
                    act(deed)
            self.assertEqual(self.state(book), self.state(whole))

    def test_merged(self):
        chance = random.Random(5)
        for _ in range(40):
            whole = any_book(chance)
            half = len(whole.told()) // 2
            one = Book(whole.land(), whole.told()[:half])
            other = Book(whole.land(), whole.told()[half:], back=whole.back())
            self.assertEqual(self.state(one.merged(other)), self.state(whole))
            self.assertEqual(self.state(other.merged(one)), self.state(whole))

    def test_a_deed_told_late(self):
        book = book_of(use(0, 1), use(3, 4))
        self.assertEqual(spans(book, 0, 6), [])
        book.tell(use(2, 2))
        self.assertEqual(spans(book, 0, 6), [(2, 7)])
        book.take_back(use(0, 1))
        self.assertEqual(spans(book, 0, 6), [(4, 7)])
        book.take_back(SOLD)
        self.assertEqual(spans(book, 0, 6), [])

    def test_nothing_hangs_on_what_is_done_elsewhere(self):
        book = book_of(use(1, 3))
        before = (spans(book, 0, 6), stand(book, 0, 6, 5), seen(book, 0, 6, 2))
        for deed in [("use", 0, 9, (3, 3), (6, 3), False), ("use", 0, 9, (0, 3), (9, 3), False),
                     ("sale", 2, (7, 5), "cid"), ("sale", 2, (1, 5), "cid"),
                     ("grant", 1, "bob", (1, 5), (6, 6)), ("end", 4, "ann", (0, 6), (7, 5))]:
            book.tell(deed)
        self.assertEqual((spans(book, 0, 6), stand(book, 0, 6, 5), seen(book, 0, 6, 2)), before)


class TestRefused(unittest.TestCase):
    BOOK = book_of(use(1, 3))
    CALLS = (seen, stand, next_change)

    def assert_refused(self, error, field, thing, call, *told):
        with self.assertRaises(error) as caught:
            call(self.BOOK, *told)
        self.assertIs(type(caught.exception), error)
        self.assertEqual(getattr(caught.exception, field), thing)
        self.assertIs(type(getattr(caught.exception, field)), type(thing))

    def test_no_cell(self):
        for thing in NO_CELLS:
            for call in self.CALLS:
                self.assert_refused(NoCell, "cell", thing, call, thing, 6, 3)
                self.assert_refused(NoCell, "cell", thing, call, 0, thing, 3)
            self.assert_refused(NoCell, "cell", thing, spans, thing, 6)
            self.assert_refused(NoCell, "cell", thing, spans, 0, thing)

    def test_no_day(self):
        for thing in NO_DAYS:
            for call in self.CALLS:
                self.assert_refused(NoDay, "day", thing, call, 0, 6, thing)

    def test_x_ahead_of_y_and_cells_ahead_of_days(self):
        for x, y in itertools.permutations((12, -1, None, True, "0"), 2):
            self.assert_refused(NoCell, "cell", x, spans, x, y)
            for call in self.CALLS:
                self.assert_refused(NoCell, "cell", x, call, x, y, 3)
                self.assert_refused(NoCell, "cell", x, call, x, y, -1)
                self.assert_refused(NoCell, "cell", x, call, x, 6, None)
                self.assert_refused(NoCell, "cell", x, call, 0, x, True)

    def test_days_above_the_last_are_answered(self):
        for day in (LAST, LAST + 1, BIG):
            self.assertEqual(seen(self.BOOK, 0, 6, day), (False,) * 5)
            self.assertEqual(stand(self.BOOK, 0, 6, day), ("none", 0))
            self.assertIsNone(next_change(self.BOOK, 0, 6, day))

    def test_what_is_refused_changes_nothing(self):
        before = (self.BOOK.told(), self.BOOK.back())
        thing = [1, [2]]
        self.assert_refused(NoCell, "cell", [1, [2]], spans, thing, 6)
        self.assertEqual(thing, [1, [2]])
        self.assertEqual((self.BOOK.told(), self.BOOK.back()), before)


class TestOwn(unittest.TestCase):
    def test_told_lists_are_new(self):
        book = book_of(use(1, 3))
        for x, told in [(0, [(3, 6)]), (5, [])]:
            rows = spans(book, x, 6)
            rows.append((99, 99))
            self.assertEqual(spans(book, x, 6), told)

    def test_by_names(self):
        book = book_of(use(1, 3))
        self.assertEqual(seen(book=book, x=0, y=6, day=2), (False, False, False, True, False))
        self.assertEqual(stand(book=book, x=0, y=6, day=2), ("none", 2))
        self.assertEqual(spans(book=book, x=0, y=6), [(3, 6)])
        self.assertEqual(next_change(book=book, x=0, y=6, day=2), 3)

    def test_kinds(self):
        book = book_of(use(1, 3))
        self.assertIs(type(spans(book, 0, 6)), list)
        self.assertIs(type(spans(book, 0, 6)[0]), tuple)
        self.assertIs(type(stand(book, 0, 6, 3)), tuple)


if __name__ == "__main__":
    unittest.main()
