"""[9], [2]: in which hand cells are."""

import copy
import itertools
import unittest

from oldways.book import Book
from oldways.errors import NoCell, NoDay
from oldways.hands import chain, hand_at, held, holdings
from oldways.land import Land
from oldways.stretches import least
from tests.anything import BIG, DEEP, LISTS, NOT_WHOLE, TEXTS, TUPLES, WIDE
from tests.slow import HANDS, books, slow_hand

LAST = 10 ** 30
LAND = Land(12, "ann")
SALES = [("sale", 3, (2, 4), "bob"), ("sale", 7, (4, 4), "cid"), ("sale", 7, (5, 1), "bob")]
BOOK = Book(LAND, SALES)
NO_DAYS = (-1, -LAST, -BIG) + NOT_WHOLE
NO_CELLS = (12, 13, LAST, BIG, -1, -BIG) + NOT_WHOLE


class HandCase(unittest.TestCase):
    def assert_refused(self, error, field, thing, call, *told, **named):
        with self.assertRaises(error) as caught:
            call(*told, **named)
        self.assertIs(type(caught.exception), error)
        self.assertEqual(getattr(caught.exception, field), thing)
        self.assertIs(type(getattr(caught.exception, field)), type(thing))


class TestHandAt(unittest.TestCase):
    def test_where_there_is_no_sale(self):
        for day in (0, 1, 10 ** 12, LAST, LAST + 1, BIG):
            self.assertEqual(hand_at(Book(LAND), 11, day), "ann")
            self.assertEqual(hand_at(BOOK, 0, day), "ann")

    def test_on_days_ahead_of_a_sale_of_it_and_behind(self):
        for day, hand in [(0, "ann"), (2, "ann"), (3, "bob"), (4, "bob"), (6, "bob"), (7, "cid"),
                          (8, "cid"), (LAST, "cid"), (BIG, "cid")]:
            self.assertEqual(hand_at(BOOK, 4, day), hand, day)

    def test_the_cells_beside_a_stretch(self):
        hands = ["ann", "ann", "bob", "bob", "bob", "bob"] + ["ann"] * 6
        self.assertEqual([hand_at(BOOK, cell, 3) for cell in range(12)], hands)

    def test_several_sales_on_one_day(self):
        for order in itertools.permutations(["abe", "bob", "zed", "zoe"], 3):
            sales = [("sale", 5, (0, 9), hand) for hand in order]
            book = Book(LAND, sales)
            self.assertEqual(hand_at(book, 3, 5), max(order))
            self.assertEqual(hand_at(book, 3, 4), "ann")
            self.assertEqual(hand_at(book, 3, 6), max(order))

    def test_the_last_hand_in_order_whatever_the_stretches(self):
        book = Book(LAND, [("sale", 5, (0, 9), "zed"), ("sale", 5, (3, 1), "bob")])
        self.assertEqual(hand_at(book, 3, 5), "zed")
        book = Book(LAND, [("sale", 5, (0, 9), "bob"), ("sale", 5, (3, 1), "zed")])
        self.assertEqual((hand_at(book, 3, 5), hand_at(book, 4, 5)), ("zed", "bob"))

    def test_the_last_day_whatever_the_hands(self):
        book = Book(LAND, [("sale", 5, (0, 9), "zed"), ("sale", 6, (0, 9), "abe")])
        self.assertEqual([hand_at(book, 0, day) for day in (4, 5, 6, 7)], ["ann", "zed", "abe", "abe"])

    def test_days_are_no_texts(self):
        book = Book(LAND, [("sale", 9, (0, 1), "bob"), ("sale", 10, (0, 1), "abe")])
        self.assertEqual([hand_at(book, 0, day) for day in (8, 9, 10)], ["ann", "bob", "abe"])

    def test_a_sale_on_day_0(self):
        book = Book(LAND, [("sale", 0, (0, 1), "bob")])
        self.assertEqual((hand_at(book, 0, 0), hand_at(book, 1, 0)), ("bob", "ann"))

    def test_by_what_stands(self):
        book = Book(LAND, SALES, back=SALES[:1])
        self.assertEqual((hand_at(book, 4, 6), hand_at(book, 4, 7)), ("ann", "cid"))
        book.take_back(SALES[1])
        self.assertEqual(hand_at(book, 4, 7), "ann")
        book.tell(("sale", 1, (4, 1), "eve"))
        self.assertEqual((hand_at(book, 4, 0), hand_at(book, 4, 7)), ("ann", "eve"))

    def test_by_names(self):
        self.assertEqual(hand_at(book=BOOK, cell=4, day=7), "cid")


class TestHoldings(unittest.TestCase):
    def test_without_sales(self):
        self.assertEqual(holdings(Book(LAND), 0), [((0, 12), "ann")])
        self.assertEqual(holdings(BOOK, 2), [((0, 12), "ann")])

    def test_with_sales(self):
        self.assertEqual(holdings(BOOK, 3), [((0, 2), "ann"), ((2, 4), "bob"), ((6, 6), "ann")])
        rows = [((0, 2), "ann"), ((2, 2), "bob"), ((4, 4), "cid"), ((8, 4), "ann")]
        self.assertEqual(holdings(BOOK, 7), rows)
        self.assertEqual(holdings(BOOK, BIG), rows)

    def test_as_few_as_can_be(self):
        book = Book(LAND, [("sale", 1, (0, 3), "bob"), ("sale", 2, (3, 3), "bob"),
                           ("sale", 3, (8, 4), "ann"), ("sale", 3, (5, 1), "bob")])
        self.assertEqual(holdings(book, 3), [((0, 6), "bob"), ((6, 6), "ann")])

    def test_the_whole_land_sold(self):
        book = Book(LAND, [("sale", 1, (0, 12), "bob")])
        self.assertEqual(holdings(book, 0), [((0, 12), "ann")])
        self.assertEqual(holdings(book, 1), [((0, 12), "bob")])

    def test_by_names(self):
        self.assertEqual(holdings(book=BOOK, day=0), [((0, 12), "ann")])


class TestHeld(unittest.TestCase):
    def test_hands(self):
        self.assertEqual(held(BOOK, "ann", 3), [(0, 2), (6, 6)])
        self.assertEqual(held(BOOK, "bob", 3), [(2, 4)])
        self.assertEqual(held(BOOK, "cid", 3), [])
        self.assertEqual(held(BOOK, "cid", 7), [(4, 4)])
        self.assertEqual(held(BOOK, "ann", 7), [(0, 2), (8, 4)])

    def test_any_other_thing(self):
        for thing in NOT_WHOLE + (0, 1, BIG, "Ann", "ann ", "anna", "an", ("ann",), ["ann"]):
            self.assertEqual(held(BOOK, thing, 3), [], thing)

    def test_by_names(self):
        self.assertEqual(held(book=BOOK, hand="bob", day=3), [(2, 4)])


class TestChain(unittest.TestCase):
    def test_without_sales(self):
        self.assertEqual(chain(Book(LAND), 0), [(0, "ann")])
        self.assertEqual(chain(BOOK, 11), [(0, "ann")])

    def test_with_sales(self):
        self.assertEqual(chain(BOOK, 2), [(0, "ann"), (3, "bob")])
        self.assertEqual(chain(BOOK, 4), [(0, "ann"), (3, "bob"), (7, "cid")])
        self.assertEqual(chain(BOOK, 5), [(0, "ann"), (3, "bob"), (7, "cid")])

    def test_a_sale_to_the_hand_that_has_it(self):
        book = Book(LAND, [("sale", 2, (0, 1), "ann"), ("sale", 5, (0, 1), "bob"),
                           ("sale", 6, (0, 1), "bob"), ("sale", 9, (0, 1), "ann")])
        self.assertEqual(chain(book, 0), [(0, "ann"), (5, "bob"), (9, "ann")])

    def test_several_on_one_day(self):
        book = Book(LAND, [("sale", 5, (0, 1), "bob"), ("sale", 5, (0, 2), "abe"),
                           ("sale", 6, (0, 1), "ann"), ("sale", 6, (0, 2), "abe")])
        self.assertEqual(chain(book, 0), [(0, "ann"), (5, "bob"), (6, "ann")])
        self.assertEqual(chain(book, 1), [(0, "ann"), (5, "abe")])

    def test_a_sale_on_day_0(self):
        book = Book(LAND, [("sale", 0, (0, 1), "bob"), ("sale", 0, (0, 1), "abe")])
        self.assertEqual(chain(book, 0), [(0, "bob")])
        self.assertEqual(chain(book, 1), [(0, "ann")])

    def test_by_names(self):
        self.assertEqual(chain(book=BOOK, cell=2), [(0, "ann"), (3, "bob")])


class TestSlowly(unittest.TestCase):
    def test_as_sought_cell_by_cell_and_day_by_day(self):
        for book in books(60, 9, cells=6):
            for day in range(18):
                hands = [slow_hand(book, cell, day) for cell in range(6)]
                self.assertEqual([hand_at(book, cell, day) for cell in range(6)], hands)
                runs = [(hand, list(run)) for hand, run in itertools.groupby(range(6), hands.__getitem__)]
                rows = [((run[0], len(run)), hand) for hand, run in runs]
                self.assertEqual(holdings(book, day), rows)
                for hand in HANDS:
                    cells = [(cell, 1) for cell in range(6) if hands[cell] == hand]
                    self.assertEqual(held(book, hand, day), least(cells))

    def test_chains(self):
        for book in books(60, 90, cells=6):
            for cell in range(6):
                hands = [slow_hand(book, cell, day) for day in range(18)]
                links = [(0, hands[0])]
                links += [(day, hands[day]) for day in range(1, 18) if hands[day] != hands[day - 1]]
                self.assertEqual(chain(book, cell), links)


class TestFar(unittest.TestCase):
    def test_land_of_the_most_cells_and_far_days(self):
        sales = [("sale", LAST - at, (10 ** 29 + at, 9 * 10 ** 29 - at), f"a{'b' * (at // 5)}")
                 for at in range(30) if at % 5 == 0]
        book = Book(Land(LAST, "zed"), sales)
        self.assertEqual(hand_at(book, LAST - 1, LAST), "a")
        self.assertEqual(hand_at(book, LAST - 1, LAST - 1), "ab")
        self.assertEqual(hand_at(book, 10 ** 29 - 1, BIG), "zed")
        self.assertEqual(holdings(book, LAST + 1), [((0, 10 ** 29), "zed"), ((10 ** 29, 9 * 10 ** 29), "a")])
        self.assertEqual(held(book, "a", BIG), [(10 ** 29, 9 * 10 ** 29)])
        links = [(0, "zed"), (LAST - 25, "abbbbb"), (LAST - 20, "abbbb"), (LAST - 15, "abbb"),
                 (LAST - 10, "abb"), (LAST - 5, "ab"), (LAST, "a")]
        self.assertEqual(chain(book, LAST - 1), links)
        self.assertEqual(chain(book, 10 ** 29), [(0, "zed"), (LAST, "a")])


class TestRefused(HandCase):
    def test_no_cell(self):
        for thing in NO_CELLS:
            self.assert_refused(NoCell, "cell", thing, hand_at, BOOK, thing, 3)
            self.assert_refused(NoCell, "cell", thing, chain, BOOK, thing)

    def test_no_day(self):
        for thing in NO_DAYS:
            self.assert_refused(NoDay, "day", thing, hand_at, BOOK, 3, thing)
            self.assert_refused(NoDay, "day", thing, holdings, BOOK, thing)
            self.assert_refused(NoDay, "day", thing, held, BOOK, "ann", thing)
            self.assert_refused(NoDay, "day", thing, held, BOOK, None, thing)

    def test_no_cell_ahead_of_no_day(self):
        for cell, day in itertools.product((12, -1, None, True, []), (-1, None, True, [])):
            self.assert_refused(NoCell, "cell", cell, hand_at, BOOK, cell, day)

    def test_truths(self):
        for truth in (True, False):
            self.assert_refused(NoCell, "cell", truth, hand_at, BOOK, truth, 3)
            self.assert_refused(NoDay, "day", truth, hand_at, BOOK, 3, truth)

    def test_the_last_cell_is_one(self):
        self.assertEqual(hand_at(BOOK, 11, 0), "ann")
        self.assertEqual(hand_at(Book(Land(1, "bob")), 0, 0), "bob")
        self.assert_refused(NoCell, "cell", 1, hand_at, Book(Land(1, "bob")), 1, 0)


class TestOwn(unittest.TestCase):
    def test_told_lists_are_new(self):
        calls = [lambda: holdings(BOOK, 7), lambda: held(BOOK, "ann", 7), lambda: chain(BOOK, 4),
                 lambda: held(BOOK, "zed", 7)]
        for call in calls:
            told = call()
            self.assertIs(type(told), list)
            before = copy.deepcopy(told)
            told.append(None)
            self.assertEqual(call(), before)

    def test_a_book_stays(self):
        before = (BOOK.told(), BOOK.back())
        for thing in LISTS + TUPLES + DEEP + WIDE + TEXTS:
            kept = copy.deepcopy(thing)
            held(BOOK, thing, 7)
            self.assertEqual(thing, kept)
        holdings(BOOK, 7)
        self.assertEqual((BOOK.told(), BOOK.back()), before)


if __name__ == "__main__":
    unittest.main()
