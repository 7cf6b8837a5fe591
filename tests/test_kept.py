"""[19], [20], [3], [2]: days of walking that keep a box's ways, and shut days that bar them."""

import itertools
import random
import unittest

from oldways.book import Book
from oldways.errors import NoDay
from oldways.kept import barred, kept
from oldways.land import Land
from oldways.pairs import stand
from tests.anything import BIG, NOT_WHOLE
from tests.slow import Slow, any_stretch, books, lies_in, slow_step
from tests.test_titles import busy_books

LAST = 10 ** 30
MOST = 10 ** 12
NO_DAYS = (-1, -LAST, -BIG) + NOT_WHOLE
LAND = Land(12, "ann", grow=3, lapse=4)
SOLD = ("sale", 0, (6, 6), "bob")
BOX = ((0, 6), (6, 6))


def book_of(*deeds, land=LAND):
    return Book(land, [SOLD, *deeds])


def use(first, last, leave=False, froms=(0, 3), overs=(6, 3)):
    return ("use", first, last, froms, overs, leave)


def grant(day, froms=(0, 3), overs=(6, 3)):
    return ("grant", day, "bob", froms, overs)


def end(day, froms=(0, 3), overs=(6, 3)):
    return ("end", day, "ann", froms, overs)


def days_of(rows):
    """The days of tuples (first, step, many), told one by one."""
    return [first + step * at for first, step, many in rows for at in range(many)]


def packed(days, step):
    """Tuples (first, step, many) of days, each as long as can be from the first day on."""
    rows = []
    for day in days:
        if rows and day == rows[-1][0] + step * rows[-1][2]:
            rows[-1] = (rows[-1][0], step, rows[-1][2] + 1)
        else:
            rows.append((day, step, 1))
    return rows


def box_pairs(slow, froms, overs, day, word):
    """The pairs of a box that stand so on a day."""
    pairs = [(x, y) for x, y in slow.pairs if lies_in(x, froms) and lies_in(y, overs)]
    return [pair for pair in pairs if slow.stands[pair][day][0] == word]


def stays(slow, pairs, day, until, marked, word):
    """Whether all pairs stay so up to a day, if they are walked, or shut, on the marked days."""
    for pair in pairs:
        standing = slow.stands[pair][day]
        for later in range(day + 1, until + 1):
            seen = slow.seen[pair][later]
            if later in marked:
                seen = seen[:4] + (True,) if word == "way" else seen[:3] + (False, False)
            standing = slow_step(slow.land, standing, seen)
            if standing[0] != word:
                return False
    return True


def slow_days(slow, froms, overs, day, until, word):
    """The fewest days, as late as can be, sought among all lots of days; None as the document tells it."""
    pairs = box_pairs(slow, froms, overs, day, word)
    if not pairs or day == until:
        return []
    for pair in pairs:
        for one_hand, granted, ended, _, _ in slow.seen[pair][day + 1:until + 1]:
            if word == "way" and (one_hand or (ended and not granted)):
                return None
            if word == "none" and granted and not one_hand:
                return None
    for many in range(until - day + 1):
        lots = [lot for lot in itertools.combinations(range(day + 1, until + 1), many)
                if stays(slow, pairs, day, until, lot, word)]
        if lots:
            return packed(max(lots), slow.land.lapse() if word == "way" else slow.land.grow())
    raise AssertionError("no days do")


def asked_by_chance(call, word, seed):
    """What is told of boxes of small books by chance, with what was sought among all lots of days."""
    chance = random.Random(seed)
    rows = []
    for book in busy_books(280, seed + 1):
        slow = Slow(book, 26)
        for _ in range(4):
            froms, overs = chance.choice([(0, 1), (0, 2), (0, 3), (1, 1)]), chance.choice([(1, 1), (1, 2), (2, 1), (0, 3)])
            day = chance.choice([day for day in range(16) if box_pairs(slow, froms, overs, day, word)] or [0])
            until = day + chance.randrange(11)
            told = call(book, froms, overs, day, until=until)
            rows.append((told, slow_days(slow, froms, overs, day, until, word)))
    return rows


def stretched(book, long):
    """A book's deeds with each day as many days long: sales at a day's begin, grants and ends at its end."""
    deeds = []
    for deed in book.deeds():
        last = (deed[1] + 1) * long - 1
        if deed[0] == "use":
            deed = ("use", deed[1] * long, (deed[2] + 1) * long - 1) + deed[3:]
        else:
            deed = (deed[0], deed[1] * long if deed[0] == "sale" else last) + deed[2:]
        deeds.append(deed)
    return deeds


class TestKept(unittest.TestCase):
    def assert_kept(self, book, day, until, *rows, froms=(0, 6), overs=(6, 6)):
        told = kept(book, froms, overs, day, until=until)
        self.assertEqual(told, list(rows))
        self.assertIs(type(told), list)
        self.assertTrue(all(type(row) is tuple for row in told))

    def test_none_is_a_way_or_both_days_are_the_same(self):
        self.assert_kept(book_of(), 0, 99)
        self.assert_kept(book_of(grant(3)), 2, 99)
        self.assert_kept(book_of(grant(3)), 3, 3)
        self.assert_kept(book_of(grant(3)), 3, 99, froms=(6, 6), overs=(0, 6))
        self.assert_kept(book_of(grant(3)), 3, 99, froms=(3, 3))
        self.assert_kept(book_of(grant(3)), 3, 99, overs=(9, 3))
        self.assert_kept(Book(LAND, [grant(3)]), 3, 99)
        self.assert_kept(book_of(grant(3), end(9)), 2, 99)
        self.assert_kept(book_of(grant(3), end(9)), 8, 99)

    def test_walked_on_the_last_day_of_the_lapse(self):
        self.assert_kept(book_of(grant(3)), 3, 6)
        self.assert_kept(book_of(grant(3)), 3, 7, (7, 4, 1))
        self.assert_kept(book_of(grant(3)), 3, 10, (7, 4, 1))
        self.assert_kept(book_of(grant(3)), 3, 11, (7, 4, 2))
        self.assert_kept(book_of(grant(3)), 5, 20, (7, 4, 4))
        self.assert_kept(book_of(grant(3)), 6, 7, (7, 4, 1))
        self.assert_kept(book_of(grant(3)), 7, 30)

    def test_what_the_book_tells_keeps_them_too(self):
        self.assert_kept(book_of(grant(3), use(5, 9)), 3, 13, (13, 4, 1))
        self.assert_kept(book_of(grant(3), use(5, 9, True)), 3, 13, (13, 4, 1))
        self.assert_kept(book_of(grant(3), grant(6)), 3, 12, (10, 4, 1))
        self.assert_kept(book_of(grant(3), use(8, 8), use(30, 30)), 3, 40, (7, 4, 1), (12, 4, 5), (34, 4, 2))

    def test_by_the_one_that_lapses_first(self):
        book = book_of(grant(3), grant(4, (3, 3)), use(6, 6, froms=(0, 1), overs=(6, 1)))
        self.assert_kept(book, 4, 12, (7, 4, 2))
        self.assert_kept(book, 4, 12, (8, 4, 2), froms=(3, 3))
        self.assert_kept(book, 4, 12, (10, 4, 1), froms=(0, 1), overs=(6, 1))

    def test_none_in_one_hand_or_ended(self):
        for deed in (end(6), ("sale", 6, (6, 1), "ann"), ("sale", 6, (2, 1), "bob")):
            book = book_of(grant(3), deed)
            self.assert_kept(book, 3, 5)
            self.assertIsNone(kept(book, *BOX, 3, until=6))
            self.assertIsNone(kept(book, *BOX, 3, until=99))
            self.assert_kept(book, 6, 6)
        self.assert_kept(book_of(grant(3), end(6), grant(6)), 3, 13, (10, 4, 1))
        # A day on which other pairs, or none that is a way, is ended is none of theirs.
        self.assert_kept(book_of(grant(3), end(6, (3, 3))), 3, 9, (7, 4, 1))
        self.assert_kept(book_of(grant(3), end(3), grant(3)), 3, 9, (7, 4, 1))
        self.assert_kept(book_of(grant(3), end(6), grant(3, (3, 3))), 3, 9, (7, 4, 1), froms=(3, 3))

    def test_slowly(self):
        rows = asked_by_chance(kept, "way", 192)
        for told, wanted in rows:
            self.assertEqual(told, wanted)
        self.assertGreater(len([told for told, _ in rows if told]), 100)
        self.assertGreater(len([told for told, _ in rows if told is None]), 50)

    def test_lapse_of_one_day(self):
        land = Land(12, "ann", grow=3, lapse=1)
        self.assert_kept(book_of(grant(3), land=land), 3, 9, (4, 1, 6))
        self.assert_kept(book_of(grant(3), use(6, 7), land=land), 3, 9, (4, 1, 2), (8, 1, 2))
        self.assert_kept(book_of(grant(3), land=land), 3, LAST, (4, 1, LAST - 3))
        self.assert_kept(book_of(grant(3), use(10, 10 ** 29, True), land=land), 3, LAST, (4, 1, 6), (10 ** 29 + 1, 1, LAST - 10 ** 29))

    def test_far(self):
        land = Land(LAST, "ann", grow=3, lapse=MOST)
        half = LAST // 2
        box = ((0, half), (half, half))
        deeds = [("sale", 0, (half, half), "bob"), ("grant", 7, "bob", *box)]
        many = (LAST - 7) // MOST
        self.assertEqual(kept(Book(land, deeds), *box, 7, until=LAST), [(7 + MOST, MOST, many)])
        self.assertEqual(kept(Book(land, deeds), *box, 7, until=BIG), [(7 + MOST, MOST, (BIG - 7) // MOST)])
        deeds.append(("use", 10 ** 29, 2 * 10 ** 29, *box, False))
        first = (10 ** 29 - 7) // MOST
        if 7 + MOST * (first + 1) <= 10 ** 29 - 1:
            first += 1
        rest = (LAST - 2 * 10 ** 29) // MOST
        told = kept(Book(land, deeds), *box, 8, until=LAST)
        self.assertEqual(told, [(7 + MOST, MOST, first), (2 * 10 ** 29 + MOST, MOST, rest)])
        self.assertEqual(kept(Book(Land(LAST, "ann", grow=3), deeds), *box, 7, until=LAST)[0][:2], (27, 20))

    def test_with_the_told_days_the_ways_live(self):
        """[3]: told the book as uses by leave, they live; without one of them, or one a day later, some don't."""
        for book in busy_books(60, 194):
            slow = Slow(book, 26)
            for day, until in [(3, 14), (6, 17), (9, 25)]:
                rows = kept(book, (0, 3), (0, 3), day, until=until)
                pairs = box_pairs(slow, (0, 3), (0, 3), day, "way")
                if not rows or len(book) + len(days_of(rows)) * len(pairs) > 30:
                    continue
                days = days_of(rows)
                self.assertTrue(self.lives(book, pairs, days, day, until))
                for at, one in enumerate(days):
                    less = days[:at] + days[at + 1:]
                    self.assertFalse(self.lives(book, pairs, less, day, until))
                    self.assertFalse(self.lives(book, pairs, less + [one + 1], day, until))

    def lives(self, book, pairs, days, day, until):
        walked = [("use", one, one, (x, 1), (y, 1), True) for one in days for x, y in pairs]
        other = Book(book.land(), book.deeds() + walked)
        return all(stand(other, x, y, one)[0] == "way" for x, y in pairs for one in range(day, until + 1))


class TestBarred(unittest.TestCase):
    def assert_barred(self, book, day, until, *rows, froms=(0, 6), overs=(6, 6)):
        told = barred(book, froms, overs, day, until=until)
        self.assertEqual(told, list(rows))
        self.assertIs(type(told), list)
        self.assertTrue(all(type(row) is tuple for row in told))

    def test_nothing_to_bar_or_both_days_are_the_same(self):
        self.assert_barred(book_of(), 0, 99)
        self.assert_barred(Book(LAND), 0, 99)
        self.assert_barred(book_of(use(0, 99)), 4, 4)
        self.assert_barred(book_of(use(0, 99)), 0, 0)
        self.assert_barred(book_of(use(0, 99), use(0, 99, froms=(3, 3)), use(0, 99, froms=(0, 6), overs=(9, 3))), 2, 50,
                           froms=(0, 3), overs=(6, 3))
        self.assert_barred(book_of(use(0, 99, True)), 0, 50)
        self.assert_barred(Book(LAND, [use(0, 99)]), 0, 50)

    def test_shut_on_the_day_on_which_it_would_be_a_way(self):
        book = book_of(use(1, 9))
        self.assert_barred(book, 0, 2)
        self.assert_barred(book, 0, 3, (3, 3, 1))
        self.assert_barred(book, 0, 5, (3, 3, 1))
        self.assert_barred(book, 0, 6, (3, 3, 2))
        self.assert_barred(book, 0, 50, (3, 3, 3))
        self.assert_barred(book, 1, 50, (3, 3, 3))
        self.assert_barred(book, 2, 50, (3, 3, 3))
        self.assert_barred(book, 3, 50)

    def test_runs_that_are_broken(self):
        self.assert_barred(book_of(use(1, 2), use(4, 5), use(7, 9)), 0, 20, (9, 3, 1))
        self.assert_barred(book_of(use(1, 9), end(4)), 0, 20, (3, 3, 1), (7, 3, 1))
        self.assert_barred(book_of(use(1, 9), end(3)), 0, 20, (6, 3, 2))
        sales = [("sale", 3, (6, 3), "ann"), ("sale", 4, (6, 3), "bob")]
        self.assert_barred(book_of(use(1, 9), *sales), 0, 20, (6, 3, 2))
        self.assert_barred(book_of(use(1, 4), use(5, 9, True)), 0, 20, (3, 3, 1))

    def test_by_the_one_that_arises_first(self):
        book = book_of(use(1, 9), use(2, 9, froms=(3, 3)))
        self.assert_barred(book, 0, 6, (3, 3, 2))
        self.assert_barred(book, 0, 6, (4, 3, 1), froms=(3, 3))
        # What was shut for the one counts for all of the box.
        self.assert_barred(book_of(use(1, 4), use(3, 7, froms=(3, 3))), 0, 20, (3, 3, 2))
        self.assert_barred(book_of(use(1, 3), use(4, 7, froms=(3, 3))), 0, 20, (3, 3, 2))
        self.assert_barred(book_of(use(1, 3), use(5, 7, froms=(3, 3))), 0, 20, (3, 3, 1), (7, 3, 1))

    def test_none_where_one_is_granted(self):
        book = book_of(use(1, 9), grant(5, (0, 1), (6, 1)))
        self.assert_barred(book, 0, 4, (3, 3, 1))
        self.assertIsNone(barred(book, *BOX, 0, until=5))
        self.assertIsNone(barred(book, *BOX, 0, until=50))
        self.assert_barred(book, 0, 50, (3, 3, 3), froms=(1, 2))
        self.assertIsNone(barred(book_of(grant(5)), *BOX, 0, until=9))
        self.assert_barred(book_of(grant(5)), 5, 9)
        # Granted in one hand, or by another hand.
        self.assert_barred(book_of(("grant", 5, "ann", *BOX)), 0, 9)
        self.assert_barred(Book(LAND, [("grant", 5, "ann", *BOX)]), 0, 9)
        # Granted while it is a way by now.
        self.assert_barred(book_of(grant(3), grant(5)), 3, 9)

    def test_slowly(self):
        rows = asked_by_chance(barred, "none", 196)
        for told, wanted in rows:
            self.assertEqual(told, wanted)
        self.assertGreater(len([told for told, _ in rows if told]), 100)
        self.assertGreater(len([told for told, _ in rows if told is None]), 50)

    def test_grow_of_one_day(self):
        land = Land(12, "ann", grow=1, lapse=4)
        self.assert_barred(book_of(use(1, 9), land=land), 0, 5, (1, 1, 5))
        self.assert_barred(book_of(use(1, 3), use(5, 5), land=land), 0, 50, (1, 1, 3), (5, 1, 1))
        self.assert_barred(book_of(use(1, 10 ** 29), land=land), 0, LAST, (1, 1, 10 ** 29))

    def test_far(self):
        land = Land(LAST, "ann", grow=MOST, lapse=3)
        half = LAST // 2
        box = ((0, half), (half, half))
        deeds = [("sale", 0, (half, half), "bob"), ("use", 5, 10 ** 29 + 4, *box, False)]
        many = 10 ** 29 // MOST
        self.assertEqual(barred(Book(land, deeds), *box, 0, until=LAST), [(4 + MOST, MOST, many)])
        self.assertEqual(barred(Book(land, deeds), *box, 4 + MOST - 1, until=BIG), [(4 + MOST, MOST, many)])
        deeds.append(("use", LAST - MOST, LAST, *box, False))
        told = barred(Book(land, deeds), *box, 0, until=LAST)
        self.assertEqual(told, [(4 + MOST, MOST, many), (LAST - 1, MOST, 1)])
        self.assertEqual(barred(Book(land, deeds), *box, 0, until=LAST - 2), told[:1])

    def test_with_the_told_days_none_arises(self):
        """[3]: without one of them, or with one a day later, some do."""
        for book in busy_books(60, 198):
            slow = Slow(book, 26)
            for day, until in [(0, 12), (3, 14), (6, 25)]:
                rows = barred(book, (0, 3), (0, 3), day, until=until)
                pairs = box_pairs(slow, (0, 3), (0, 3), day, "none")
                for at, one in enumerate(days_of(rows or [])):
                    days = days_of(rows)
                    less = days[:at] + days[at + 1:]
                    self.assertTrue(stays(slow, pairs, day, until, days, "none"))
                    self.assertFalse(stays(slow, pairs, day, until, less, "none"))
                    self.assertFalse(stays(slow, pairs, day, until, less + [one + 1], "none"))


class TestBoth(unittest.TestCase):
    BOOK = book_of(grant(3), use(1, 9, froms=(3, 3)))

    def test_thirty_deeds(self):
        chance = random.Random(199)
        for grow, lapse in [(1, 1), (MOST, 7), (3, MOST), (MOST, MOST)]:
            land = Land(LAST, "ann", grow=grow, lapse=lapse)
            told = [("sale", 0, (LAST // 2, LAST // 2), "bob")]
            while len(told) < 30:
                first = chance.randrange(LAST)
                froms, overs = any_stretch(chance, LAST), any_stretch(chance, LAST)
                if chance.random() < 0.2:
                    told.append(("grant", chance.randrange(9), "bob", froms, overs))
                else:
                    told.append(("use", first, min(LAST, first + 10 ** 29), froms, overs, chance.random() < 0.3))
            book = Book(land, told)
            for call, step in ((kept, lapse), (barred, grow)):
                rows = call(book, (0, LAST), (0, LAST), 9, until=LAST)
                self.assertTrue(rows is None or all(row[1] == step for row in rows))
                for (first, _, many), (later, _, _) in itertools.pairwise(rows or []):
                    self.assertGreater(later, first + step * many)

    def test_each_day_many_days_long(self):
        """[3]: the same deeds with each day many days long: what is done on a day is done at its end."""
        long = 10 ** 11
        for book in busy_books(30, 200):
            land = book.land()
            far = Book(Land(3, "ann", grow=land.grow() * long, lapse=land.lapse() * long), stretched(book, long))
            for call in (kept, barred):
                for day, until in [(0, 9), (3, 14), (7, 20)]:
                    near = call(book, (0, 3), (0, 3), day, until=until)
                    told = call(far, (0, 3), (0, 3), (day + 1) * long - 1, until=(until + 1) * long - 1)
                    wanted = near and [((first + 1) * long - 1, step * long, many) for first, step, many in near]
                    self.assertEqual(told, wanted)

    def test_far_days_are_answered(self):
        for day in (LAST, LAST + 1, BIG):
            self.assertEqual(kept(self.BOOK, *BOX, day, until=BIG), [])
            self.assertEqual(barred(self.BOOK, *BOX, day, until=BIG), [])

    def test_no_day_and_day_ahead_of_until(self):
        for call in (kept, barred):
            for thing in NO_DAYS:
                for day, until in [(thing, 9), (3, thing), (thing, "zed"), (thing, -7), (thing, None)]:
                    with self.assertRaises(NoDay) as caught:
                        call(self.BOOK, *BOX, day, until=until)
                    self.assertIs(type(caught.exception), NoDay)
                    self.assertEqual(caught.exception.day, thing)
                    self.assertIs(type(caught.exception.day), type(thing))
            self.assertIsNotNone(call(self.BOOK, *BOX, 5, until=9))

    def test_until_by_its_name_alone(self):
        for call in (kept, barred):
            with self.assertRaises(TypeError):
                call(self.BOOK, *BOX, 5, 9)
            told = call(until=9, day=5, overs=(6, 6), froms=(0, 6), book=self.BOOK)
            self.assertEqual(told, call(self.BOOK, (0, 6), (6, 6), 5, until=9))

    def test_told_lists_are_the_askers_own(self):
        for call, day in ((kept, 5), (barred, 0)):
            box = ((0, 3), (6, 3)) if call is kept else ((3, 3), (6, 3))
            told = call(self.BOOK, *box, day, until=30)
            before = list(told)
            self.assertTrue(told)
            told.append(None)
            told[0] = None
            self.assertEqual(call(self.BOOK, *box, day, until=30), before)

    def test_what_is_told_later_counts(self):
        book = book_of(grant(3))
        self.assertEqual(kept(book, *BOX, 3, until=9), [(7, 4, 1)])
        book.tell(use(6, 6))
        self.assertEqual(kept(book, *BOX, 3, until=9), [])
        book.take_back(use(6, 6))
        self.assertEqual(kept(book, *BOX, 3, until=9), [(7, 4, 1)])
        book.tell(end(8))
        self.assertIsNone(kept(book, *BOX, 3, until=9))


if __name__ == "__main__":
    unittest.main()
