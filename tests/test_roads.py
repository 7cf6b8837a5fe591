"""[22], [3], [2]: from which cells one comes to a road, and when."""

import itertools
import random
import unittest

from oldways.book import Book
from oldways.errors import NoCell, NoDay
from oldways.land import Land
from oldways.roads import open_cells, opens, opens_by_use
from oldways.stretches import least
from tests.anything import BIG, NOT_WHOLE
from tests.slow import Slow, any_deed, any_stretch, lies_in, slow_step

LAST = 10 ** 30
MOST = 10 ** 12
NO_DAYS = (-1, -LAST, -BIG) + NOT_WHOLE
NO_CELLS = (12, 13, LAST, BIG, -1, -BIG) + NOT_WHOLE
# Cells 0 to 3 are ann's, 4 to 7 bob's, 8 to 11 ann's; cells 0 and 11 are roads.
LAND = Land(12, "ann", grow=3, lapse=4, roads=((0, 1), (11, 1)))
SOLD = ("sale", 0, (4, 4), "bob")
# The same with a road on the left alone.
LEFT = Land(12, "ann", grow=3, lapse=4, roads=((0, 1),))
RIGHT = Land(12, "ann", grow=3, lapse=4, roads=((11, 1),))
USED = (False, False, False, True, False)


def grant(day, froms, overs, giver="bob"):
    return ("grant", day, giver, froms, overs)


def use(first, last, froms, overs, leave=False):
    return ("use", first, last, froms, overs, leave)


def roaded_books(many, seed, days=16):
    """Small books of land with roads."""
    chance = random.Random(seed)
    made = []
    for _ in range(many):
        cells = chance.randint(3, 7)
        roads = tuple(least([any_stretch(chance, 2)] * chance.randrange(2) + [(cells - 1, 1)] * chance.randrange(2)))
        if chance.random() < 0.3:
            roads = tuple(least([(chance.randrange(cells), 1) for _ in range(chance.randrange(3))]))
        land = Land(cells, "ann", grow=chance.randint(1, 4), lapse=chance.randint(1, 5), roads=roads)
        told = [any_deed(chance, cells, days) for _ in range(chance.randrange(12))]
        told += [use(first, first + 4, any_stretch(chance, cells), (0, cells)) for first in chance.sample(range(days), 3)]
        made.append(Book(land, told))
    return made


def sides(land, cell):
    """The cells between a cell and the nearest road on each side with a road; of a road none between."""
    roads = [one for one in range(land.cells()) if any(lies_in(one, road) for road in land.roads())]
    if cell in roads:
        return [[]]
    left = [list(range(road + 1, cell)) for road in roads if road < cell][-1:]
    right = [list(range(cell + 1, road)) for road in roads if road > cell][:1]
    return left + right


def slow_open(slow, cell, day):
    """Whether a cell is open on a day, by the words of [22]."""
    hands = slow.hands[day]
    for between in sides(slow.land, cell):
        if all(hands[other] == hands[cell] or slow.stands[(cell, other)][day][0] == "way" for other in between):
            return True
    return False


def slow_by_use(slow, cell, since):
    """The first day on which a cell is open by use alone, gone day by day."""
    hands, day = slow.hands[since], since
    stands = {other: slow.stands[(cell, other)][since] for other in slow.cells}
    while sides(slow.land, cell):
        for between in sides(slow.land, cell):
            if all(hands[other] == hands[cell] or stands[other][0] == "way" for other in between):
                return day
        day += 1
        stands = {other: slow_step(slow.land, standing, (hands[other] == hands[cell],) + USED[1:])
                  for other, standing in stands.items()}
    return None


class TestOpenCells(unittest.TestCase):
    def test_no_roads(self):
        land = Land(12, "ann")
        for book in (Book(land), Book(land, [SOLD]), Book(land, [SOLD, grant(3, (0, 12), (0, 12))])):
            for day in (0, 3, 4, LAST, BIG):
                self.assertEqual(open_cells(book, day), [])

    def test_roads_themselves_and_cells_of_one_hand(self):
        self.assertEqual(open_cells(Book(LAND), 0), [(0, 12)])
        self.assertEqual(open_cells(Book(LEFT), BIG), [(0, 12)])
        self.assertEqual(open_cells(Book(Land(12, "ann", roads=((0, 12),)), [SOLD]), 0), [(0, 12)])
        alone = Book(LEFT, [("sale", 0, (1, 11), "bob")])
        self.assertEqual(open_cells(alone, 0), [(0, 12)])

    def test_cells_beside_roads_whoever_holds_them(self):
        land = Land(12, "ann", roads=((5, 2),))
        book = Book(land, [("sale", 0, (4, 1), "bob"), ("sale", 0, (7, 1), "cid"), ("sale", 0, (6, 1), "dan")])
        self.assertEqual(open_cells(book, 0), [(4, 4)])

    def test_another_hand_between(self):
        self.assertEqual(open_cells(Book(LEFT, [SOLD]), 0), [(0, 4)])
        self.assertEqual(open_cells(Book(RIGHT, [SOLD]), 0), [(8, 4)])
        # One road on each side, and bob between: he comes to none.
        self.assertEqual(open_cells(Book(LAND, [SOLD]), 0), [(0, 4), (8, 4)])

    def test_with_ways_over_all_between(self):
        book = Book(LAND, [SOLD, grant(3, (4, 4), (1, 3), "ann"), grant(3, (8, 1), (1, 7))])
        self.assertEqual(open_cells(book, 2), [(0, 4), (8, 4)])
        self.assertEqual(open_cells(book, 3), [(0, 12)])
        self.assertEqual(open_cells(book, 6), [(0, 12)])
        self.assertEqual(open_cells(book, 7), [(0, 4), (8, 4)])
        # A way over all of them but one, or over those on the other side, or that others have, is none.
        for froms, overs in [((4, 4), (1, 2)), ((4, 4), (2, 2)), ((4, 4), (8, 2)), ((8, 1), (1, 3)), ((1, 3), (4, 4))]:
            self.assertEqual(open_cells(Book(LAND, [SOLD, grant(3, froms, overs, "ann")]), 3), [(0, 4), (8, 4)])
        self.assertEqual(open_cells(Book(LAND, [SOLD, grant(3, (6, 1), (8, 3), "ann")]), 3), [(0, 4), (6, 1), (8, 4)])

    def test_own_cells_behind_other_hands(self):
        book = Book(LEFT, [SOLD, grant(3, (9, 2), (4, 4))])
        self.assertEqual(open_cells(book, 3), [(0, 4), (9, 2)])

    def test_to_the_nearest_road_on_the_side(self):
        land = Land(12, "ann", roads=((0, 1), (5, 1)))
        book = Book(land, [("sale", 0, (6, 3), "bob"), grant(1, (9, 3), (1, 4))])
        self.assertEqual(open_cells(book, 1), [(0, 9)])
        # Bob's one cell lies between two roads, but beside none; ann's come to the nearer ones.
        book = Book(land, [("sale", 0, (2, 1), "bob")])
        self.assertEqual(open_cells(book, 0), [(0, 2), (3, 9)])

    def test_slowly(self):
        for book in roaded_books(80, 221):
            slow = Slow(book, 26)
            for day in slow.days:
                cells = [(cell, 1) for cell in slow.cells if slow_open(slow, cell, day)]
                self.assertEqual(open_cells(book, day), least(cells))

    def test_far(self):
        land = Land(LAST, "ann", grow=3, lapse=MOST, roads=((5, 10), (LAST - 9, 3)))
        third = LAST // 3
        deeds = [("sale", 7, (third, third), "bob"), grant(9, (third + 5, 5), (0, third), "ann"),
                 grant(9, (third + 7, 9), (2 * third, third), "ann")]
        book = Book(land, deeds)
        self.assertEqual(open_cells(book, 6), [(0, LAST)])
        self.assertEqual(open_cells(book, 7), [(0, third), (2 * third, LAST - 2 * third)])
        self.assertEqual(open_cells(book, 9), [(0, third), (third + 5, 11), (2 * third, LAST - 2 * third)])
        self.assertEqual(open_cells(book, 8 + MOST), open_cells(book, 9))
        self.assertEqual(open_cells(book, 9 + MOST), open_cells(book, 7))
        self.assertEqual(open_cells(book, BIG), open_cells(book, 7))


class TestOpens(unittest.TestCase):
    def test_at_once(self):
        for book in (Book(LAND), Book(LAND, [SOLD])):
            for cell in (0, 1, 3, 8, 11):
                for since in (0, 5, LAST, BIG):
                    self.assertEqual(opens(book, cell, since=since), since)

    def test_never(self):
        for cell in (4, 5, 7):
            self.assertIsNone(opens(Book(LAND, [SOLD]), cell, since=0))
        self.assertIsNone(opens(Book(Land(12, "ann")), 3, since=0))
        book = Book(LAND, [SOLD, grant(3, (4, 4), (1, 3), "ann")])
        self.assertIsNone(opens(book, 5, since=7))
        self.assertIsNone(opens(book, 5, since=BIG))

    def test_by_what_the_book_tells(self):
        book = Book(LAND, [SOLD, grant(3, (4, 4), (1, 3), "ann"), ("sale", 9, (8, 3), "bob")])
        self.assertEqual([opens(book, 5, since=day) for day in range(12)], [3, 3, 3, 3, 4, 5, 6, 9, 9, 9, 10, 11])
        book = Book(LEFT, [SOLD, use(3, 5, (5, 1), (2, 2)), use(4, 7, (5, 1), (1, 1))])
        self.assertEqual([opens(book, 5, since=day) for day in range(11)], [6, 6, 6, 6, 6, 6, 6, 7, 8, None, None])

    def test_when_all_between_are_ways_on_one_day(self):
        book = Book(LEFT, [SOLD, grant(1, (5, 1), (1, 2), "ann"), grant(6, (5, 1), (3, 1), "ann")])
        self.assertIsNone(opens(book, 5, since=0))
        book.tell(grant(7, (5, 1), (1, 2), "ann"))
        self.assertEqual(opens(book, 5, since=0), 7)

    def test_slowly(self):
        for book in roaded_books(60, 222):
            slow = Slow(book, 30)
            for cell in slow.cells:
                days = [day for day in slow.days if slow_open(slow, cell, day)]
                for since in range(0, 30, 2):
                    later = [day for day in days if day >= since]
                    self.assertEqual(opens(book, cell, since=since), later[0] if later else None)

    def test_far(self):
        land = Land(LAST, "ann", grow=MOST, lapse=MOST, roads=((0, 1),))
        half = LAST // 2
        deeds = [("sale", 0, (half, half), "bob"), use(LAST - MOST, LAST, (half, 9), (0, half))]
        book = Book(land, deeds)
        self.assertEqual(opens(book, half + 8, since=5), LAST - 1)
        self.assertEqual(opens(book, half + 8, since=LAST + 7), LAST + 7)
        self.assertIsNone(opens(book, half + 8, since=LAST + MOST))
        self.assertIsNone(opens(book, half + 9, since=5))


class TestOpensByUse(unittest.TestCase):
    def test_a_road_or_an_open_cell_at_once(self):
        for cell in (0, 1, 3, 8, 11):
            for since in (0, 5, LAST, BIG):
                self.assertEqual(opens_by_use(Book(LAND, [SOLD]), cell, since=since), since)

    def test_none_without_roads(self):
        self.assertIsNone(opens_by_use(Book(Land(12, "ann")), 3, since=0))
        self.assertIsNone(opens_by_use(Book(Land(12, "ann"), [SOLD]), 5, since=BIG))

    def test_by_growing(self):
        for since in (0, 4, LAST, BIG):
            self.assertEqual(opens_by_use(Book(LAND, [SOLD]), 5, since=since), since + 3)

    def test_by_what_stands_on_the_day(self):
        book = Book(LEFT, [SOLD, use(3, 5, (5, 1), (2, 2)), use(4, 7, (5, 1), (1, 1))])
        told = [opens_by_use(book, 5, since=day) for day in range(12)]
        # On day 4 the one pair has been used for a day, the others for two.
        self.assertEqual(told, [3, 4, 5, 6, 6, 6, 6, 7, 8, 12, 13, 14])

    def test_nothing_that_is_told_behind_the_day_counts(self):
        book = Book(LEFT, [SOLD, ("sale", 3, (4, 4), "ann"), grant(3, (4, 4), (1, 3), "ann"), ("end", 2, "bob", (4, 4), (1, 3))])
        self.assertEqual([opens_by_use(book, 5, since=day) for day in (0, 1, 2, 3)], [3, 4, 5, 3])

    def test_the_nearer_in_days_of_both_sides(self):
        book = Book(LAND, [SOLD, use(1, 2, (5, 1), (8, 3))])
        self.assertEqual([opens_by_use(book, 5, since=day) for day in (0, 1, 2, 3)], [3, 3, 3, 6])

    def test_slowly(self):
        for book in roaded_books(60, 223):
            slow = Slow(book, 26)
            for cell in slow.cells:
                for since in range(0, 26, 2):
                    self.assertEqual(opens_by_use(book, cell, since=since), slow_by_use(slow, cell, since))

    def test_far(self):
        land = Land(LAST, "ann", grow=MOST, roads=((0, 1),))
        half = LAST // 2
        book = Book(land, [("sale", 0, (half, half), "bob"), use(LAST - 9, LAST, (half, 9), (0, half))])
        self.assertEqual(opens_by_use(book, half + 8, since=LAST - 10), LAST - 10 + MOST)
        self.assertEqual(opens_by_use(book, half + 8, since=LAST - 9), LAST - 10 + MOST)
        self.assertEqual(opens_by_use(book, half + 8, since=LAST), LAST - 10 + MOST)
        self.assertEqual(opens_by_use(book, half + 9, since=LAST), LAST + MOST)


class TestAll(unittest.TestCase):
    BOOK = Book(LAND, [SOLD, grant(3, (4, 4), (1, 3), "ann")])

    def test_as_open_cells_tell(self):
        for book in roaded_books(20, 224):
            for cell, day in itertools.product(range(book.land().cells()), range(20)):
                is_open = any(lies_in(cell, stretch) for stretch in open_cells(book, day))
                self.assertEqual(opens(book, cell, since=day) == day, is_open)
                self.assertEqual(opens_by_use(book, cell, since=day) == day, is_open)

    def test_thirty_deeds(self):
        chance = random.Random(225)
        eighth = LAST // 8
        roads = tuple((at * eighth, 5) for at in range(8))
        land = Land(LAST, "ann", grow=5, lapse=7, roads=roads)
        told = []
        while len(set(told)) < 30:
            told.append(any_deed(chance, LAST, 60))
        book = Book(land, told)
        for day in (0, 20, 40, 70):
            cells = open_cells(book, day)
            self.assertEqual(cells, least(cells + list(roads)))
            for _ in range(30):
                cell = chance.randrange(LAST)
                is_open = any(lies_in(cell, stretch) for stretch in cells)
                self.assertEqual(opens(book, cell, since=day) == day, is_open)
                later = opens_by_use(book, cell, since=day)
                self.assertTrue(later == day if is_open else day < later <= day + 5)

    def test_refused(self):
        for thing in NO_CELLS:
            for call in (opens, opens_by_use):
                for since in (3, -1, None, True):
                    self.assert_refused(NoCell, "cell", thing, call, thing, since=since)
        for thing in NO_DAYS:
            self.assert_refused(NoDay, "day", thing, open_cells, thing)
            for call in (opens, opens_by_use):
                self.assert_refused(NoDay, "day", thing, call, 5, since=thing)
        self.assertEqual(opens(self.BOOK, 5, since=0), 3)
        self.assertEqual(opens_by_use(self.BOOK, 5, since=5), 5)
        self.assertEqual(open_cells(self.BOOK, LAST + 1), [(0, 4), (8, 4)])

    def assert_refused(self, error, field, thing, call, *told, **named):
        with self.assertRaises(error) as caught:
            call(self.BOOK, *told, **named)
        self.assertIs(type(caught.exception), error)
        self.assertEqual(getattr(caught.exception, field), thing)
        self.assertIs(type(getattr(caught.exception, field)), type(thing))

    def test_names(self):
        for call in (opens, opens_by_use):
            with self.assertRaises(TypeError):
                call(self.BOOK, 5, 0)
            self.assertEqual(call(since=3, cell=5, book=self.BOOK), 3)
        self.assertEqual(open_cells(day=3, book=self.BOOK), [(0, 12)])

    def test_told_lists_are_the_askers_own(self):
        told = open_cells(self.BOOK, 3)
        self.assertIs(type(told), list)
        told.append(None)
        told[0] = None
        self.assertEqual(open_cells(self.BOOK, 3), [(0, 12)])

    def test_what_is_told_later_counts(self):
        book = self.BOOK.copy()
        self.assertEqual((open_cells(book, 3), opens(book, 5, since=0)), ([(0, 12)], 3))
        book.tell(("end", 2, "bob", (4, 4), (1, 3)))
        self.assertEqual((open_cells(book, 3), opens(book, 5, since=0)), ([(0, 12)], 3))
        book.take_back(grant(3, (4, 4), (1, 3), "ann"))
        self.assertEqual((open_cells(book, 3), opens(book, 5, since=0)), ([(0, 4), (8, 4)], None))
        book.tell(("sale", 4, (4, 4), "ann"))
        self.assertEqual((open_cells(book, 4), opens(book, 5, since=0)), ([(0, 12)], 4))


if __name__ == "__main__":
    unittest.main()
