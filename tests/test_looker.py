"""[17], [15], [16], [3], [2]: the looker, whatever it is told."""

import copy
import itertools
import random
import unittest

from oldways.book import Book
from oldways.errors import NoCell, NoDay
from oldways.land import Land
from oldways.looker import is_title, is_want
from oldways.pairs import stand
from oldways.titles import title, want
from tests.anything import ANYTHING, BIG, NOT_WHOLE, variants
from tests.slow import SlowPair, books
from tests.test_titles import busy_books

LAST = 10 ** 30
LAND = Land(12, "ann", grow=3, lapse=4)
SOLD = ("sale", 0, (6, 6), "bob")
NO_DAYS = (-1, -LAST, -BIG) + NOT_WHOLE
NO_CELLS = (12, 13, LAST, BIG, -1, -BIG) + NOT_WHOLE


def use(first, last, leave=False):
    return ("use", first, last, (0, 3), (6, 3), leave)


def grant(day, giver="bob"):
    return ("grant", day, giver, (0, 3), (6, 3))


def end(day, giver="ann"):
    return ("end", day, giver, (0, 3), (6, 3))


def is_day(thing):
    return type(thing) is int and thing >= 0


def alike(one, other):
    """That two things are the same with the kinds of all their parts."""
    return repr(one) == repr(other)


def slow_title(pair, day, thing):
    """Whether any thing is a title, by the words of [15]."""
    if type(thing) is not list:
        return False
    if not all(any(alike(deed, help) for help in pair.helps) for deed in thing):
        return False
    if thing != sorted(thing) or len(set(thing)) != len(thing):
        return False
    return pair.stands(thing)[day][0] == "way"


def slow_want(pair, day, thing):
    """Whether any thing is a want, by the words of [16]."""
    land = pair.land
    seen = [pair.seen(one, pair.about) for one in pair.days]
    if type(thing) is not tuple or len(thing) != 2 or type(thing[0]) is not int or type(thing[1]) is not list:
        return False
    begin, gaps = thing
    for gap in gaps:
        if type(gap) is not tuple or len(gap) != 2 or not is_day(gap[0]) or not is_day(gap[1]) or gap[0] > gap[1]:
            return False
    if begin != -1:
        if not 0 <= begin <= day:
            return False
        one_hand, granted, ended, _, _ = seen[begin]
        ahead = seen[max(0, begin - land.lapse() + 1):begin + 1]
        idle = begin >= land.lapse() - 1 and not any(one[1] or one[3] or one[4] for one in ahead)
        if not one_hand and not (ended and not granted) and not idle:
            return False
    behind = begin
    for first, last in gaps:
        if first <= behind or last > day or first - behind - 1 >= land.grow():
            return False
        if any(one[3] and not one[0] and not one[2] for one in seen[first:last + 1]):
            return False
        behind = last
    if day - behind >= land.grow():
        return False
    return not any(one[1] and not one[0] for one in seen[begin + 1:day + 1])


class TestTitles(unittest.TestCase):
    BOOK = Book(LAND, [SOLD, end(9), grant(1), grant(1, "ann"), use(1, 3), use(4, 6, True)])

    def test_titles_with_more_deeds_than_are_needed(self):
        deeds = [grant(1), use(1, 3), use(4, 6, True)]
        for many in range(4):
            for lot in itertools.combinations(deeds, many):
                told = grant(1) in lot or use(1, 3) in lot
                self.assertIs(is_title(self.BOOK, 0, 6, 3, list(lot)), told)
        self.assertIs(is_title(self.BOOK, 0, 6, 3, [grant(1, "ann"), grant(1), use(1, 3)]), True)
        self.assertIs(is_title(self.BOOK, 0, 6, 3, [grant(1, "ann"), use(4, 6, True)]), False)

    def test_of_deeds_about_other_pairs_too(self):
        other = ("grant", 2, "bob", (4, 1), (9, 1))
        book = Book(LAND, [SOLD, grant(2), other])
        self.assertIs(is_title(book, 0, 6, 3, [grant(2), other]), True)
        self.assertIs(is_title(book, 0, 6, 3, [other]), False)

    def test_what_does_not_stand_helps_nothing(self):
        self.assertIs(is_title(self.BOOK, 0, 6, 3, [grant(2)]), False)
        self.assertIs(is_title(self.BOOK, 0, 6, 3, [grant(1), grant(2)]), False)
        book = Book(LAND, [SOLD, grant(1), use(1, 3)], back=[grant(1)])
        self.assertIs(is_title(book, 0, 6, 3, [grant(1)]), False)
        self.assertIs(is_title(book, 0, 6, 3, [grant(1), use(1, 3)]), False)
        self.assertIs(is_title(book, 0, 6, 3, [use(1, 3)]), True)

    def test_sales_and_ends_always_stay_and_are_in_none(self):
        self.assertIs(is_title(self.BOOK, 0, 6, 9, [grant(1), use(4, 6, True)]), False)
        self.assertIs(is_title(self.BOOK, 0, 6, 8, [grant(1), use(4, 6, True)]), True)
        self.assertIs(is_title(self.BOOK, 0, 6, 8, [end(9), grant(1), use(4, 6, True)]), False)
        self.assertIs(is_title(self.BOOK, 0, 6, 3, [grant(1), SOLD]), False)
        self.assertIs(is_title(Book(LAND, [grant(1), use(1, 3)]), 0, 6, 3, [grant(1), use(1, 3)]), False)

    def test_in_order_each_once(self):
        self.assertIs(is_title(self.BOOK, 0, 6, 3, [use(1, 3), grant(1)]), False)
        self.assertIs(is_title(self.BOOK, 0, 6, 3, [grant(1), grant(1)]), False)
        self.assertIs(is_title(self.BOOK, 0, 6, 3, (grant(1),)), False)
        self.assertIs(is_title(self.BOOK, 0, 6, 3, [list(grant(1))]), False)

    def test_what_python_takes_for_alike(self):
        book = Book(LAND, [SOLD, grant(1), ("use", 0, 2, (0, 1), (6, 1), False)])
        self.assertIs(is_title(book, 0, 6, 1, [("grant", True, "bob", (0, 3), (6, 3))]), False)
        self.assertIs(is_title(book, 0, 6, 2, [("use", 0, 2, (0, 1), (6, 1), 0)]), False)
        self.assertIs(is_title(book, 0, 6, 2, [("use", False, 2, (0, 1), (6, 1), False)]), False)
        self.assertIs(is_title(book, 0, 6, 2, [("use", 0, 2, (0, 1), (6, 1), False)]), True)

    def test_all_lots_of_deeds(self):
        for book in busy_books(15, 171):
            pair = SlowPair(book, 0, 1, 24)
            helps = pair.helps[:7]
            for many in range(len(helps) + 1):
                for lot in itertools.combinations(helps, many):
                    stands = pair.stands(lot)
                    for day in range(0, 24, 5):
                        told = is_title(book, 0, 1, day, list(lot))
                        self.assertIs(told, stands[day][0] == "way")

    def test_told_titles_with_a_part_put_otherwise(self):
        chance = random.Random(172)
        for book in busy_books(12, 173):
            pair = SlowPair(book, 0, 1, 24)
            for day in range(0, 24, 3):
                told = title(book, 0, 1, day)
                if told is None:
                    continue
                self.assertIs(is_title(book, 0, 1, day, told), True)
                things = variants(told)
                for thing in chance.sample(things, min(60, len(things))):
                    self.assertIs(is_title(book, 0, 1, day, thing), slow_title(pair, day, thing), thing)

    def test_each_part_put_otherwise(self):
        pair = SlowPair(self.BOOK, 0, 6, 12)
        for thing in variants([grant(1), use(4, 6, True)]) + variants([use(1, 3)]):
            for day in (3, 8):
                self.assertIs(is_title(self.BOOK, 0, 6, day, thing), slow_title(pair, day, thing), thing)


class TestWants(unittest.TestCase):
    BOOK = Book(LAND, [SOLD, grant(1), end(3), use(3, 5), use(8, 9), use(20, 20, True)])

    def test_begins(self):
        # Day 3 is ended; by days 4 to 5 it is used, days 10 to 13 are four idle ones.
        told = [begin for begin in range(-3, 24) if is_want(self.BOOK, 0, 6, 24, (begin, [(begin + 1, 24)]))]
        self.assertEqual(told, [13, 14, 15, 16, 17, 18, 19])
        self.assertIs(is_want(self.BOOK, 0, 6, 24, (24, [])), True)
        self.assertIs(is_want(self.BOOK, 0, 6, 23, (23, [])), False)
        for begin in (13, 19):
            self.assertIs(is_want(self.BOOK, 0, 6, begin, (begin, [])), True)
        self.assertIs(is_want(self.BOOK, 0, 6, 12, (12, [])), False)
        self.assertIs(is_want(self.BOOK, 0, 6, 13, (14, [])), False)
        self.assertIs(is_want(self.BOOK, 0, 6, 3, (3, [])), True)

    def test_begin_of_lapse_days_is_not_below_lapse_less_1(self):
        book = Book(LAND, [SOLD])
        told = [begin for begin in range(-2, 9) if is_want(book, 0, 6, 8, (begin, [(begin + 1, 8)] if begin < 8 else []))]
        self.assertEqual(told, [-1, 3, 4, 5, 6, 7, 8])

    def test_a_day_granted_in_one_hand_is_no_idle_one_but_a_begin_of_its_own(self):
        sales = [("sale", 2, (6, 1), "ann"), ("sale", 3, (6, 1), "bob")]
        book = Book(LAND, [SOLD, ("grant", 2, "ann", (0, 1), (6, 1)), *sales])
        told = [begin for begin in range(9) if is_want(book, 0, 6, begin, (begin, []))]
        self.assertEqual(told, [2, 6, 7, 8])
        self.assertIs(is_want(book, 0, 6, 2, (-1, [(0, 2)])), True)

    def test_gaps(self):
        # Behind the end on day 3 it is used on 4, 5, 8, 9.
        self.assertEqual(want(self.BOOK, 0, 6, 9), (3, [(6, 7)]))
        for gaps, told in [([(6, 7)], True), ([(6, 6)], False), ([(7, 7)], False), ([(6, 6), (7, 7)], True),
                           ([(5, 7)], False), ([(6, 8)], False), ([(7, 7), (6, 6)], False), ([(6, 7), (7, 7)], False),
                           ([], False), ([(3, 3), (6, 7)], False), ([(6, 7), (10, 10)], False), ([(7, 6)], False)]:
            self.assertIs(is_want(self.BOOK, 0, 6, 9, (3, gaps)), told, gaps)

    def test_fewer_days_than_grow_between(self):
        book = Book(LAND, [SOLD])
        for gaps, told in [([(2, 2), (5, 5), (8, 8)], True), ([(2, 2), (6, 6), (8, 8)], False), ([(3, 3), (5, 5), (8, 8)], False),
                           ([(2, 2), (5, 5), (7, 7)], False), ([(2, 2), (5, 6), (7, 8)], True), ([(0, 10)], True),
                           ([(0, 11)], False), ([(-1, 10)], False), ([(2, 7)], False), ([(2, 8)], True)]:
            self.assertIs(is_want(book, 0, 6, 10, (-1, gaps)), told, gaps)

    def test_granted_behind_the_begin(self):
        self.assertIs(is_want(self.BOOK, 0, 6, 0, (-1, [(0, 0)])), True)
        self.assertIs(is_want(self.BOOK, 0, 6, 4, (-1, [(0, 4)])), False)
        self.assertIs(is_want(self.BOOK, 0, 6, 4, (3, [])), True)
        sale = ("sale", 0, (6, 6), "bob")
        book = Book(LAND, [sale, ("grant", 2, "ann", (0, 3), (0, 3))])
        self.assertIs(is_want(book, 0, 1, 4, (-1, [(0, 4)])), True)

    def test_whatever_was_ahead(self):
        # A begin that is right stands though there was a way ahead, and though none was.
        for book in (Book(LAND, [SOLD, grant(2), end(4)]), Book(LAND, [SOLD, end(4)])):
            self.assertIs(is_want(book, 0, 6, 6, (4, [(5, 5)])), True)
            # Idle for four days: that the way had fallen ahead isn't looked at.
            self.assertIs(is_want(book, 0, 6, 6, (5, [(6, 6)])), not book.stands(grant(2)))
            self.assertIs(is_want(book, 0, 6, 6, (6, [])), True)

    def test_told_wants_with_a_part_put_otherwise(self):
        chance = random.Random(174)
        for book in busy_books(25, 175) + books(15, 176, cells=3):
            pair = SlowPair(book, 0, 1, 30)
            for day in range(0, 24, 3):
                told = want(book, 0, 1, day)
                if told is None:
                    continue
                self.assertIs(is_want(book, 0, 1, day, told), True)
                things = variants(told)
                for thing in chance.sample(things, min(80, len(things))):
                    self.assertIs(is_want(book, 0, 1, day, thing), slow_want(pair, day, thing), thing)

    def test_wants_by_chance(self):
        chance = random.Random(177)
        kinds = set()
        for book in busy_books(40, 178):
            pair = SlowPair(book, 0, 1, 24)
            for _ in range(150):
                day = chance.randrange(14)
                begin = chance.choice([-1, -1, chance.randrange(-2, day + 2)])
                cuts = sorted(chance.randrange(begin, day + 2) for _ in range(2 * chance.randrange(4)))
                thing = (begin, list(zip(cuts[::2], cuts[1::2])))
                told = slow_want(pair, day, thing)
                kinds.add((told, begin == -1, len(thing[1])))
                self.assertIs(is_want(book, 0, 1, day, thing), told, (day, thing))
        self.assertGreater(len(kinds), 12)

    def test_each_part_put_otherwise(self):
        pair = SlowPair(self.BOOK, 0, 6, 30)
        for day, told in [(9, (3, [(6, 7)])), (24, (13, [(14, 24)])), (2, (-1, [])), (3, (3, []))]:
            for thing in variants(told):
                self.assertIs(is_want(self.BOOK, 0, 6, day, thing), slow_want(pair, day, thing), thing)

    def test_what_python_takes_for_alike(self):
        book = Book(Land(12, "ann", grow=3, lapse=1), [SOLD])
        self.assertIs(is_want(book, 0, 6, 1, (1, [])), True)
        self.assertIs(is_want(book, 0, 6, 1, (True, [])), False)
        self.assertIs(is_want(book, 0, 6, 1, (0, [(1, 1)])), True)
        for thing in [(0, [(True, 1)]), (0, [(1, True)]), (False, [(1, 1)]), (0, [[1, 1]]), (0, ((1, 1),)), [0, [(1, 1)]]]:
            self.assertIs(is_want(book, 0, 6, 1, thing), False)

    def test_far(self):
        book = Book(LAND, [SOLD, ("use", LAST - 1, LAST, (0, 1), (6, 1), False)])
        self.assertIs(is_want(book, 0, 6, BIG, (-1, [(0, LAST - 2), (LAST + 1, BIG)])), True)
        self.assertIs(is_want(book, 0, 6, BIG, (-1, [(0, LAST - 1), (LAST + 1, BIG)])), False)
        self.assertIs(is_want(book, 0, 6, BIG, (-1, [(0, LAST - 2), (LAST + 2, BIG)])), False)
        self.assertIs(is_want(book, 0, 6, BIG, (-1, [(0, LAST - 2), (LAST + 1, BIG + 1)])), False)
        self.assertIs(is_want(book, 0, 6, BIG, (BIG, [])), True)
        self.assertIs(is_want(book, 0, 6, BIG, (LAST + 4, [(LAST + 5, BIG)])), True)
        self.assertIs(is_want(book, 0, 6, BIG, (LAST + 3, [(LAST + 4, BIG)])), False)
        many = [(2 * at, 2 * at) for at in range(300)]
        self.assertIs(is_want(book, 0, 6, 599, (-1, many)), True)
        self.assertIs(is_want(book, 0, 6, 604, (-1, many)), False)


class TestAnyThing(unittest.TestCase):
    BOOK = Book(LAND, [SOLD, grant(1), use(8, 9)])
    MORE = ([grant(1), None], [None], [[grant(1)]], (-1,), (-1, [], []), (-1, None), (-1, ()), ([], -1), (None, []),
            ("-1", []), (-1, [None]), (-1, [()]), (-1, [(0,)]), (-1, [(0, 9, 9)]), (-1, [("0", "9")]), (-1, [(0, None)]))

    def test_any_thing_is_told_of(self):
        for thing in ANYTHING + self.MORE:
            before = copy.deepcopy(thing)
            for day in (0, 1, 7, BIG):
                self.assertIs(is_title(self.BOOK, 0, 6, day, thing), False, thing)
                self.assertIs(is_want(self.BOOK, 0, 6, day, thing), False, thing)
            self.assertEqual(thing, before)

    def test_what_is_handed_in_stays(self):
        deeds, gaps = [grant(1)], (-1, [(0, 0)])
        self.assertIs(is_title(self.BOOK, 0, 6, 1, deeds), True)
        self.assertIs(is_want(self.BOOK, 0, 6, 0, gaps), True)
        self.assertEqual((deeds, gaps), ([grant(1)], (-1, [(0, 0)])))
        deeds.clear()
        gaps[1].clear()
        self.assertEqual(title(self.BOOK, 0, 6, 1), [grant(1)])
        self.assertEqual(want(self.BOOK, 0, 6, 0), (-1, [(0, 0)]))

    def test_no_title_or_want_that_is_not_so(self):
        """[3]: whoever wrote it: what is let by is so."""
        chance = random.Random(179)
        for book in busy_books(10, 180):
            papers = []
            for day in range(0, 20, 2):
                papers += [title(book, 0, 1, day), want(book, 0, 1, day)]
            for day in range(20):
                word, _ = stand(book, 0, 1, day)
                for thing in papers + [variant for paper in papers for variant in chance.sample(variants(paper), 3)]:
                    if is_title(book, 0, 1, day, thing):
                        self.assertEqual(word, "way")
                    if is_want(book, 0, 1, day, thing):
                        self.assertEqual(word, "none")

    def test_by_names(self):
        self.assertIs(is_title(thing=[grant(1)], day=1, y=6, x=0, book=self.BOOK), True)
        self.assertIs(is_want(thing=(-1, [(0, 0)]), day=0, y=6, x=0, book=self.BOOK), True)


class TestRefused(unittest.TestCase):
    BOOK = Book(LAND, [SOLD, grant(1)])

    def assert_refused(self, error, field, thing, call, *told):
        with self.assertRaises(error) as caught:
            call(self.BOOK, *told)
        self.assertIs(type(caught.exception), error)
        self.assertEqual(getattr(caught.exception, field), thing)
        self.assertIs(type(getattr(caught.exception, field)), type(thing))

    def test_cells_and_days(self):
        for call in (is_title, is_want):
            for paper in ([grant(1)], None, (-1, [(0, 0)]), [[]]):
                for thing in NO_CELLS:
                    self.assert_refused(NoCell, "cell", thing, call, thing, 6, 1, paper)
                    self.assert_refused(NoCell, "cell", thing, call, 0, thing, 1, paper)
                for thing in NO_DAYS:
                    self.assert_refused(NoDay, "day", thing, call, 0, 6, thing, paper)

    def test_x_ahead_of_y_and_cells_ahead_of_days(self):
        for x, y in itertools.permutations((12, -1, None, True, "0"), 2):
            for call in (is_title, is_want):
                self.assert_refused(NoCell, "cell", x, call, x, y, 3, [])
                self.assert_refused(NoCell, "cell", x, call, x, y, -1, [])
                self.assert_refused(NoCell, "cell", x, call, x, 6, None, [])
                self.assert_refused(NoCell, "cell", x, call, 0, x, True, [])


if __name__ == "__main__":
    unittest.main()
