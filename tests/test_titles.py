"""[15], [16], [3], [2]: titles, needful deeds, and wants."""

import itertools
import random
import unittest

from oldways.book import Book
from oldways.errors import NoCell, NoDay
from oldways.land import Land
from oldways.looker import is_title, is_want
from oldways.pairs import next_change, stand
from oldways.titles import needful, title, want
from tests.anything import BIG, NOT_WHOLE
from tests.slow import SlowPair, any_deed, books

LAST = 10 ** 30
MOST = 10 ** 12
LAND = Land(12, "ann", grow=3, lapse=4)
SOLD = ("sale", 0, (6, 6), "bob")
NO_DAYS = (-1, -LAST, -BIG) + NOT_WHOLE
NO_CELLS = (12, 13, LAST, BIG, -1, -BIG) + NOT_WHOLE


def book_of(*deeds):
    return Book(LAND, [SOLD, *deeds])


def use(first, last, leave=False):
    return ("use", first, last, (0, 3), (6, 3), leave)


def grant(day, giver="bob"):
    return ("grant", day, giver, (0, 3), (6, 3))


def end(day, giver="ann"):
    return ("end", day, giver, (0, 3), (6, 3))


def busy_books(many, seed):
    """Small books with more deeds about each pair than others have."""
    chance = random.Random(seed)
    made = []
    for _ in range(many):
        land = Land(3, "ann", grow=chance.randint(1, 4), lapse=chance.randint(1, 4))
        told = [("sale", 0, (1, 2), "bob")]
        for _ in range(chance.randint(6, 11)):
            deed = any_deed(chance, 3, 16)
            if deed[0] in ("grant", "end"):
                deed = (deed[0], deed[1], chance.choice(["ann", "bob"]), (0, 2), (1, 2))
            elif deed[0] == "use" and chance.random() < 0.8:
                deed = deed[:3] + ((0, 2), (1, 2)) + deed[5:]
            elif deed[0] == "sale" and chance.random() < 0.6:
                continue
            told.append(deed)
        made.append(Book(land, told))
    return made


class TestTitle(unittest.TestCase):
    def assert_title(self, book, day, *deeds, x=0, y=6):
        told = title(book, x, y, day)
        self.assertEqual(told, list(deeds), day)
        self.assertIs(type(told), list)
        self.assertIs(is_title(book, x, y, day, told), True)
        self.assertIsNone(want(book, x, y, day))

    def test_none_where_there_is_no_way(self):
        for book in (book_of(), Book(LAND), book_of(use(0, 1)), book_of(use(0, 9, True)), book_of(end(3))):
            for day in (0, 1, 2, 3, 30, LAST, BIG):
                self.assertIsNone(title(book, 0, 6, day))
        self.assertIsNone(title(book_of(grant(3)), 0, 6, 2))
        self.assertIsNone(title(book_of(grant(3)), 0, 6, 7))
        self.assertIsNone(title(book_of(grant(3)), 1, 1, 3))

    def test_granted(self):
        for day in (3, 4, 5, 6):
            self.assert_title(book_of(grant(3)), day, grant(3))

    def test_grants_that_help_nothing(self):
        self.assert_title(book_of(grant(3), grant(3, "ann"), grant(2, "cid"), grant(8)), 5, grant(3))
        self.assert_title(book_of(grant(1), grant(5)), 8, grant(5))
        self.assert_title(book_of(grant(1), end(2), grant(3)), 3, grant(3))

    def test_arisen_by_use(self):
        self.assert_title(book_of(use(1, 3)), 3, use(1, 3))
        self.assert_title(book_of(use(1, 3)), 6, use(1, 3))
        self.assert_title(book_of(use(1, 2), use(3, 3)), 3, use(1, 2), use(3, 3))
        self.assert_title(book_of(use(1, 1), use(2, 2), use(3, 3), use(1, 2), use(2, 3)), 4, use(1, 1), use(2, 3))
        self.assert_title(book_of(use(1, 1), use(2, 2), use(3, 3), use(0, 3, True)), 3, use(1, 1), use(2, 2), use(3, 3))

    def test_kept_alive_by_use_without_leave(self):
        self.assert_title(book_of(grant(0), use(4, 4), use(8, 8)), 10, grant(0), use(4, 4), use(8, 8))
        self.assert_title(book_of(grant(0), use(2, 2), use(4, 4), use(8, 8)), 10, grant(0), use(4, 4), use(8, 8))

    def test_kept_alive_by_use_by_leave(self):
        self.assert_title(book_of(grant(0), use(4, 5, True), use(9, 9, True)), 12, grant(0), use(4, 5, True), use(9, 9, True))
        self.assert_title(book_of(use(0, 2), use(6, 6, True), use(7, 9, True)), 9, use(0, 2), use(6, 6, True))
        self.assert_title(book_of(use(0, 2), use(1, 6, True)), 9, use(0, 2), use(1, 6, True))

    def test_one_use_that_arises_and_keeps_alive(self):
        self.assert_title(book_of(use(0, 20), use(3, 3), use(9, 9, True), grant(5)), 4, use(0, 20))
        self.assert_title(book_of(use(0, 20), use(3, 3), use(9, 9, True)), 23, use(0, 20))

    def test_behind_a_lapse(self):
        self.assert_title(book_of(grant(0), use(2, 3), use(8, 10), grant(12)), 12, grant(12))
        self.assert_title(book_of(grant(0), use(8, 10)), 10, use(8, 10))
        self.assertIsNone(title(book_of(grant(0), use(8, 9)), 0, 6, 9))

    def test_behind_one_hand(self):
        sales = [("sale", 4, (6, 1), "ann"), ("sale", 5, (6, 1), "bob")]
        book = book_of(grant(0), use(3, 9), *sales)
        self.assertIsNone(title(book, 0, 6, 4))
        self.assertIsNone(title(book, 0, 6, 6))
        self.assert_title(book, 7, use(3, 9))
        self.assert_title(book_of(use(0, 3), grant(4, "ann"), grant(5), *sales), 5, grant(5))
        self.assertIsNone(title(book_of(use(0, 3), grant(4, "ann"), *sales), 0, 6, 4))

    def test_behind_an_end(self):
        book = book_of(grant(0), use(0, 9), end(4))
        self.assert_title(book, 3, grant(0))
        self.assertIsNone(title(book, 0, 6, 4))
        self.assertIsNone(title(book, 0, 6, 6))
        self.assert_title(book, 7, use(0, 9))
        # Granted on the day on which it is ended.
        self.assert_title(book_of(end(4), grant(4)), 4, grant(4))
        self.assert_title(book_of(end(4), grant(4), use(2, 4)), 6, grant(4))
        # Another hand's end is none.
        self.assert_title(book_of(grant(0), end(2, "bob")), 3, grant(0))

    def test_barred_on_day_0(self):
        book = book_of(use(0, 2), use(3, 3), end(0))
        self.assertIsNone(title(book, 0, 6, 2))
        self.assert_title(book, 3, use(0, 2), use(3, 3))
        book = Book(LAND, [("sale", 1, (6, 6), "bob"), use(0, 2), use(3, 3)])
        self.assertIsNone(title(book, 0, 6, 2))
        self.assert_title(book, 3, use(0, 2), use(3, 3))

    def test_by_the_hand_of_the_day(self):
        sale = ("sale", 3, (6, 1), "cid")
        self.assert_title(book_of(sale, grant(3), grant(3, "cid")), 3, grant(3, "cid"))
        self.assert_title(book_of(sale, grant(2), grant(2, "cid")), 5, grant(2))

    def test_taken_back_ones_are_in_none(self):
        book = book_of(grant(3), use(1, 3))
        book.take_back(grant(3))
        self.assert_title(book, 3, use(1, 3))
        book.take_back(use(1, 3))
        self.assertIsNone(title(book, 0, 6, 3))
        book.tell(use(1, 3))
        self.assertIsNone(title(book, 0, 6, 3))

    def test_of_deeds_about_the_pair_alone(self):
        more = [("grant", 3, "bob", (1, 3), (6, 3)), ("grant", 3, "bob", (0, 3), (7, 3)), ("use", 0, 9, (1, 1), (6, 1), False)]
        self.assert_title(book_of(use(1, 1), use(2, 2), use(3, 3), *more), 3, use(1, 1), use(2, 2), use(3, 3))

    def test_against_all_lots_of_deeds(self):
        for book in busy_books(30, 151) + books(15, 152, cells=3):
            for x, y in [(0, 1), (0, 2), (1, 2), (2, 0)]:
                pair = SlowPair(book, x, y, 26)
                if len(pair.about) > 8:
                    continue
                lots = [lot for many in range(len(pair.about) + 1)
                        for lot in itertools.combinations(pair.about, many)]
                fewest = {}
                for lot in lots:
                    for day, (word, _) in enumerate(pair.stands(lot)):
                        if word == "way":
                            fewest.setdefault(day, len(lot))
                for day in pair.days:
                    told = title(book, x, y, day)
                    if day not in fewest:
                        self.assertIsNone(told)
                        continue
                    self.assertEqual(len(told), fewest[day])
                    self.assertEqual(told, sorted(set(told)))
                    self.assertTrue(all(deed in pair.about for deed in told))
                    self.assertEqual(pair.stands(told)[day][0], "way")


class TestNeedful(unittest.TestCase):
    def test_needful(self):
        self.assertEqual(needful(book_of(grant(3)), 0, 6, 3), [grant(3)])
        self.assertEqual(needful(book_of(grant(3), use(1, 3)), 0, 6, 3), [])
        book = book_of(grant(0), grant(0, "ann"), use(3, 3), use(4, 4), use(8, 8))
        self.assertEqual(needful(book, 0, 6, 3), [grant(0)])
        self.assertEqual(needful(book, 0, 6, 6), [grant(0)])
        self.assertEqual(needful(book, 0, 6, 7), [grant(0), use(4, 4)])
        self.assertEqual(needful(book, 0, 6, 8), [grant(0), use(4, 4), use(8, 8)])
        self.assertEqual(needful(book_of(grant(3)), 0, 6, 2), [])
        self.assertEqual(needful(book_of(), 0, 6, BIG), [])

    def test_against_books_without_each(self):
        for book in busy_books(40, 153) + books(20, 154, cells=3):
            for x, y in [(0, 1), (0, 2), (2, 1)]:
                for day in range(0, 24, 2):
                    told = needful(book, x, y, day)
                    self.assertIs(type(told), list)
                    if stand(book, x, y, day)[0] == "none":
                        self.assertEqual(told, [])
                        continue
                    wanted = []
                    for deed in book.deeds():
                        if deed[0] in ("grant", "use"):
                            other = Book(book.land(), book.deeds(), back=[deed])
                            if stand(other, x, y, day)[0] == "none":
                                wanted.append(deed)
                    self.assertEqual(told, wanted)


class TestWant(unittest.TestCase):
    def assert_want(self, book, day, begin, *gaps, x=0, y=6):
        told = want(book, x, y, day)
        self.assertEqual(told, (begin, list(gaps)), day)
        self.assertEqual((type(told), type(told[1])), (tuple, list))
        self.assertIs(is_want(book, x, y, day, told), True)
        self.assertIsNone(title(book, x, y, day))

    def assert_right(self, book, day, x=0, y=6):
        """That a want is told and is let by."""
        told = want(book, x, y, day)
        self.assertIs(is_want(book, x, y, day, told), True, (told, day))
        return told

    def test_none_where_it_is_a_way(self):
        self.assertIsNone(want(book_of(grant(3)), 0, 6, 3))
        self.assertIsNone(want(book_of(use(1, 3)), 0, 6, 6))
        self.assertIsNotNone(want(book_of(use(1, 3)), 0, 6, 7))

    def test_begin_ahead_of_all_days(self):
        self.assert_want(book_of(), 5, -1, (0, 5))
        self.assert_want(book_of(), 0, -1, (0, 0))
        self.assert_want(book_of(use(0, 1)), 1, -1)
        self.assert_want(book_of(use(0, 1), use(3, 4)), 4, -1, (2, 2))
        self.assert_want(book_of(use(0, 1), use(3, 4)), 6, -1, (2, 2), (5, 6))
        self.assert_want(book_of(use(0, 9, True)), 8, -1, (0, 8))

    def test_begin_of_one_hand(self):
        sales = [("sale", 4, (6, 1), "ann"), ("sale", 5, (6, 1), "bob")]
        self.assert_want(book_of(grant(3), *sales), 4, 4)
        self.assert_want(book_of(grant(3), *sales), 6, 4, (5, 6))
        self.assert_want(book_of(grant(3), use(3, 6), *sales), 6, 4)

    def test_begin_of_an_end(self):
        self.assert_want(book_of(grant(3), end(4)), 4, 4)
        self.assert_want(book_of(grant(3), end(4), use(4, 6)), 6, 4)
        self.assert_want(book_of(grant(3), end(4), use(6, 7)), 9, 4, (5, 5), (8, 9))

    def test_begin_of_a_lapse(self):
        self.assert_want(book_of(grant(3)), 7, 7)
        self.assert_want(book_of(grant(3), use(8, 9)), 9, 7)
        self.assert_want(book_of(use(0, 2), use(8, 9)), 11, 6, (7, 7), (10, 11))

    def test_ended_days_and_days_in_one_hand_are_gaps(self):
        self.assert_right(book_of(use(0, 4), end(2)), 4)
        self.assert_want(book_of(use(0, 4), end(2)), 4, -1, (2, 2))
        sales = [("sale", 2, (6, 1), "ann"), ("sale", 3, (6, 1), "bob")]
        self.assert_want(book_of(use(0, 4), *sales), 4, -1, (2, 2))

    def test_far_days(self):
        self.assert_want(book_of(), BIG, -1, (0, BIG))
        self.assert_want(book_of(use(0, LAST)), LAST + 4, LAST + 4)
        self.assert_want(book_of(use(LAST, LAST)), LAST + 9, -1, (0, LAST - 1), (LAST + 1, LAST + 9))
        land = Land(LAST, "ann", grow=MOST, lapse=MOST)
        x, y = 7, LAST - 1
        deeds = [("sale", 0, (LAST // 2, LAST // 2), "bob"), ("grant", 5, "bob", (0, 9), (LAST - 2, 2)),
                 ("use", 3 * MOST, 4 * MOST - 2, (0, 9), (LAST - 2, 2), False)]
        book = Book(land, deeds)
        self.assert_want(book, 4 * MOST - 2, MOST + 5, (MOST + 6, 3 * MOST - 1), x=x, y=y)
        self.assert_want(book, 9 * MOST, MOST + 5, (MOST + 6, 3 * MOST - 1), (4 * MOST - 1, 9 * MOST), x=x, y=y)

    def test_of_each_pair_and_day_a_title_or_a_want(self):
        for book in busy_books(40, 161) + books(40, 162, cells=3):
            for x, y in itertools.product(range(3), repeat=2):
                for day in range(24):
                    deeds, gaps = title(book, x, y, day), want(book, x, y, day)
                    self.assertEqual(deeds is None, gaps is not None)
                    self.assertEqual(stand(book, x, y, day)[0], "none" if deeds is None else "way")
                    self.assertIs(is_title(book, x, y, day, deeds), deeds is not None)
                    self.assertIs(is_want(book, x, y, day, gaps), gaps is not None)
                    self.assertIs(is_title(book, x, y, day, gaps), False)
                    self.assertIs(is_want(book, x, y, day, deeds), False)


class TestFar(unittest.TestCase):
    def test_thirty_deeds_about_one_pair(self):
        chance = random.Random(163)
        land = Land(LAST, "ann", grow=20, lapse=7)
        half = LAST // 2
        box = ((0, half), (half, half))
        for share in (0.2, 0.5, 0.8):
            told = [("sale", 0, (half, half), "bob"), ("end", 30, "ann", *box)]
            while len(set(told)) < 30:
                first = chance.randrange(120)
                told.append(("use", first, first + chance.randrange(12), *box, chance.random() < share))
            book = Book(land, told)
            for day in range(0, 150, 3):
                deeds, gaps = title(book, 3, half, day), want(book, 3, half, day)
                self.assertEqual(deeds is None, gaps is not None)
                self.assertTrue(is_title(book, 3, half, day, deeds) or is_want(book, 3, half, day, gaps))
                for deed in needful(book, 3, half, day):
                    self.assertIn(deed, deeds)

    def test_a_chain_of_twenty_nine_uses(self):
        far = LAST - 10 * MOST
        land = Land(LAST, "ann", grow=29 * 10 ** 10, lapse=MOST)
        uses = [("use", far + at * 10 ** 10, far + (at + 1) * 10 ** 10 - 1, (0, 1), (9, 1), False) for at in range(29)]
        book = Book(land, [("sale", 0, (9, 1), "bob"), *uses])
        day = far + 29 * 10 ** 10 - 1
        self.assertIsNone(title(book, 0, 9, day - 1))
        self.assertEqual(title(book, 0, 9, day), uses)
        self.assertEqual(needful(book, 0, 9, day), uses)
        self.assertEqual(want(book, 0, 9, day - 1), (-1, [(0, far - 1)]))
        self.assertEqual(next_change(book, 0, 9, day), day + MOST)
        book.take_back(uses[13])
        self.assertIsNone(title(book, 0, 9, day))

    def test_uses_that_lie_over_many_others(self):
        land = Land(9, "ann", grow=100, lapse=10)
        uses = [("use", at * 7, at * 7 + 20, (0, 1), (8, 1), at % 3 == 2) for at in range(28)]
        book = Book(land, [("sale", 0, (8, 1), "bob"), *uses, ("use", 0, 300, (0, 1), (8, 1), False)])
        self.assertEqual(len(title(book, 0, 8, 200)), 1)
        book.take_back(("use", 0, 300, (0, 1), (8, 1), False))
        pair = [deed for deed in uses if not deed[5]]
        self.assertEqual(title(book, 0, 8, 99)[0], pair[0])
        # From day 0 on each next use that isn't by leave begins within 21 days.
        self.assertEqual([deed[1] for deed in title(book, 0, 8, 99)], [0, 21, 42, 63, 84])


class TestRefused(unittest.TestCase):
    BOOK = book_of(use(1, 3))
    CALLS = (title, needful, want)

    def assert_refused(self, error, field, thing, call, *told):
        with self.assertRaises(error) as caught:
            call(self.BOOK, *told)
        self.assertIs(type(caught.exception), error)
        self.assertEqual(getattr(caught.exception, field), thing)
        self.assertIs(type(getattr(caught.exception, field)), type(thing))

    def test_no_cell(self):
        for thing in NO_CELLS:
            for call in self.CALLS:
                self.assert_refused(NoCell, "cell", thing, call, thing, 6, 3)
                self.assert_refused(NoCell, "cell", thing, call, 0, thing, 3)

    def test_no_day(self):
        for thing in NO_DAYS:
            for call in self.CALLS:
                self.assert_refused(NoDay, "day", thing, call, 0, 6, thing)

    def test_x_ahead_of_y_and_cells_ahead_of_days(self):
        for x, y in itertools.permutations((12, -1, None, True, "0"), 2):
            for call in self.CALLS:
                self.assert_refused(NoCell, "cell", x, call, x, y, 3)
                self.assert_refused(NoCell, "cell", x, call, x, y, -1)
                self.assert_refused(NoCell, "cell", x, call, x, 6, None)
                self.assert_refused(NoCell, "cell", x, call, 0, x, True)

    def test_answered_behind_a_refusal_and_on_far_days(self):
        for day in (LAST, LAST + 1, BIG):
            self.assertIsNone(title(self.BOOK, 0, 6, day))
            self.assertEqual(needful(self.BOOK, 0, 6, day), [])
            self.assertEqual(want(self.BOOK, 0, 6, day), (6 + 1, [(8, day)]))
        for call in self.CALLS:
            self.assert_refused(NoCell, "cell", 12, call, 12, 6, 3)
        self.assertEqual(title(self.BOOK, 0, 6, 3), [use(1, 3)])
        self.assertEqual(needful(self.BOOK, 0, 6, 3), [use(1, 3)])


class TestOwn(unittest.TestCase):
    def test_told_lists_are_the_askers_own(self):
        book = book_of(grant(3), use(5, 6))
        for call in (title, needful):
            told = call(book, 0, 6, 4)
            told.append(None)
            told[0] = None
            self.assertEqual(call(book, 0, 6, 4), [grant(3)])
        empty = needful(book, 0, 6, 1)
        empty.append(None)
        self.assertEqual(needful(book, 0, 6, 1), [])
        told = want(book, 0, 6, 2)
        told[1].append(None)
        self.assertEqual(want(book, 0, 6, 2), (-1, [(0, 2)]))

    def test_what_is_told_the_book_later_counts(self):
        book = book_of(grant(3))
        told = title(book, 0, 6, 4)
        book.tell(end(4))
        self.assertEqual(told, [grant(3)])
        self.assertIsNone(title(book, 0, 6, 4))
        self.assertEqual(want(book, 0, 6, 4), (4, []))
        book.take_back(end(4))
        self.assertEqual(title(book, 0, 6, 4), [grant(3)])

    def test_the_same_each_time(self):
        for book in busy_books(20, 164):
            other = Book(book.land(), book.deeds()[::-1])
            for day in range(20):
                for call in (title, needful, want):
                    self.assertEqual(call(book, 0, 1, day), call(book, 0, 1, day))
                    self.assertEqual(call(book, 0, 1, day), call(other, 0, 1, day))

    def test_by_names(self):
        book = book_of(grant(3))
        self.assertEqual(title(day=4, y=6, x=0, book=book), [grant(3)])
        self.assertEqual(needful(day=4, y=6, x=0, book=book), [grant(3)])
        self.assertEqual(want(day=2, y=6, x=0, book=book), (-1, [(0, 2)]))


if __name__ == "__main__":
    unittest.main()
