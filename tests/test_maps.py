"""[14], [3], [5], [8], [10], [12], [13], [2]: of all pairs at once."""

import itertools
import random
import unittest

from oldways.book import Book
from oldways.errors import NoDay, Unlike
from oldways.land import Land
from oldways.maps import all_spans, changes, counts, parted, quiet, stands, ways
from oldways.pairs import next_change, spans, stand
from oldways.sheets import Sheet
from tests.anything import BIG, NOT_WHOLE
from tests.slow import Slow, any_book, any_deed, any_stretch, books, form_of, spans_where

LAST = 10 ** 30
MOST = 10 ** 12
NO_DAYS = (-1, -LAST, -BIG) + NOT_WHOLE
# Cells 0 to 5 are ann's, 6 to 11 bob's.
LAND = Land(12, "ann", grow=3, lapse=4)
SOLD = ("sale", 0, (6, 6), "bob")
USE = ("use", 1, 3, (0, 3), (6, 2), False)
GRANT = ("grant", 2, "bob", (2, 3), (7, 3))
BOOK = Book(LAND, [SOLD, USE, GRANT])
FAR_DAYS = (LAST - 1, LAST, LAST + 1, BIG)


def two_books(many, seed):
    """Pairs of small books of one land, some of their deeds alike."""
    chance = random.Random(seed)
    pairs = []
    for _ in range(many):
        one = any_book(chance)
        told = [deed for deed in one.told() if chance.random() < 0.7]
        told += [any_deed(chance, 4, 16) for _ in range(chance.randrange(4))]
        pairs.append((one, Book(one.land(), told, back=one.back())))
    return pairs


def wide_book(chance, cells=LAST, days=LAST, grow=MOST, lapse=MOST):
    """A book of thirty deeds over far land and far days."""
    land = Land(cells, "ann", grow=grow, lapse=lapse)
    told = []
    while len(set(told)) < 30:
        deed = any_deed(chance, cells, days)
        if deed[0] == "use":
            last = min(LAST, deed[1] + chance.randrange(5 * grow))
            deed = deed[:2] + (last,) + deed[3:]
        told.append(deed)
    return Book(land, told)


class TestWaysAndStands(unittest.TestCase):
    def test_a_day(self):
        self.assertEqual(ways(BOOK, 1).rows(), [])
        self.assertEqual(ways(BOOK, 2).rows(), [((2, 3), (((7, 3), True),))])
        self.assertEqual(ways(BOOK, 3).rows(), [
            ((0, 2), (((6, 2), True),)), ((2, 1), (((6, 4), True),)), ((3, 2), (((7, 3), True),))])
        self.assertEqual(stands(BOOK, 1).rows(), [((0, 3), (((6, 2), ("none", 1)),))])
        self.assertEqual(stands(BOOK, 3).rows(), [
            ((0, 2), (((6, 2), ("way", 0)),)),
            ((2, 1), (((6, 2), ("way", 0)), ((8, 2), ("way", 1)))),
            ((3, 2), (((7, 3), ("way", 1)),))])

    def test_kinds(self):
        self.assertIs(type(ways(BOOK, 3)), Sheet)
        self.assertIs(type(stands(BOOK, 3)), Sheet)
        for _, parts in ways(BOOK, 3).rows():
            for _, value in parts:
                self.assertIs(value, True)
        for _, parts in stands(BOOK, 3).rows():
            for _, value in parts:
                self.assertEqual((type(value), type(value[0]), type(value[1])), (tuple, str, int))

    def test_stands_of_none_that_are_told_and_left_out(self):
        book = Book(LAND, [SOLD, ("use", 0, 1, (0, 1), (6, 1), False)])
        told = [stands(book, day).at(0, 6) for day in range(4)]
        self.assertEqual(told, [("none", 1), ("none", 2), None, None])
        self.assertEqual([stands(book, day).area() for day in range(4)], [1, 1, 0, 0])

    def test_day_0(self):
        book = Book(LAND, [SOLD, ("grant", 0, "bob", (0, 1), (6, 1)), ("use", 0, 0, (3, 1), (8, 1), False)])
        self.assertEqual(ways(book, 0).rows(), [((0, 1), (((6, 1), True),))])
        self.assertEqual(stands(book, 0).rows(), [
            ((0, 1), (((6, 1), ("way", 0)),)), ((3, 1), (((8, 1), ("none", 1)),))])

    def test_slowly_in_the_one_form(self):
        for book in books(50, 14):
            slow = Slow(book)
            for day in slow.days:
                told = {pair: stands[day] for pair, stands in slow.stands.items() if stands[day] != ("none", 0)}
                self.assertEqual(stands(book, day).rows(), form_of(told))
                told = {pair: True for pair in slow.ways(day)}
                self.assertEqual(ways(book, day).rows(), form_of(told))
                self.assertEqual(ways(book, day).area(), len(told))

    def test_behind_all_deeds(self):
        for book in [BOOK] + books(20, 15):
            for day in FAR_DAYS:
                self.assertEqual(ways(book, day), Sheet([]))
                self.assertEqual(stands(book, day), Sheet([]))
        book = Book(LAND, [SOLD, ("grant", LAST, "bob", (0, 6), (6, 6))])
        told = [stands(book, day).rows() for day in range(LAST - 1, LAST + 5)]
        rows = [[((0, 6), (((6, 6), ("way", days)),))] for days in range(4)]
        self.assertEqual(told, [[]] + rows + [[]])
        self.assertEqual(ways(book, LAST + 3).area(), 36)
        self.assertEqual(ways(book, LAST + 4).area(), 0)

    def test_no_way_on_a_cell_itself_or_in_one_hand(self):
        deeds = [("grant", 1, hand, (0, 12), (0, 12)) for hand in ("ann", "bob")]
        sheet = ways(Book(LAND, [SOLD, *deeds]), 1)
        self.assertEqual(sheet.rows(), [((0, 6), (((6, 6), True),)), ((6, 6), (((0, 6), True),))])


class TestAllSpans(unittest.TestCase):
    def test_spans(self):
        book = Book(LAND, [SOLD, USE, ("grant", 9, "bob", (0, 1), (6, 1)), ("use", 4, 9, (5, 1), (9, 1), True)])
        self.assertEqual(all_spans(book).rows(), [
            ((0, 1), (((6, 1), ((3, 6), (9, 12))), ((7, 1), ((3, 6),)))), ((1, 2), (((6, 2), ((3, 6),)),))])
        self.assertEqual(all_spans(Book(LAND, [SOLD])), Sheet([]))
        self.assertEqual(all_spans(Book(LAND)).rows(), [])

    def test_slowly_in_the_one_form(self):
        for book in books(60, 16):
            slow = Slow(book)
            told = {}
            for pair, rows in slow.stands.items():
                told[pair] = tuple(spans_where([word == "way" for word, _ in rows]))
            told = {pair: spans for pair, spans in told.items() if spans}
            self.assertEqual(all_spans(book).rows(), form_of(told))

    def test_as_each_pair_tells(self):
        for book in books(20, 17):
            sheet = all_spans(book)
            for x, y in itertools.product(range(4), repeat=2):
                self.assertEqual(list(sheet.at(x, y) or ()), spans(book, x, y))


class TestChanges(unittest.TestCase):
    def test_a_deed_more(self):
        one = Book(LAND, [SOLD, USE])
        other = Book(LAND, [SOLD, USE, GRANT])
        rows = [((2, 1), (((7, 1), ((2, 2),)), ((8, 2), ((2, 5),)))), ((3, 2), (((7, 3), ((2, 5),)),))]
        self.assertEqual(changes(one, other).rows(), rows)
        self.assertEqual(changes(other, one).rows(), rows)

    def test_touching_ones_are_joined(self):
        one = Book(LAND, [SOLD, ("grant", 1, "bob", (0, 1), (6, 1))])
        other = Book(LAND, [SOLD, ("grant", 5, "bob", (0, 1), (6, 1))])
        self.assertEqual(changes(one, other).rows(), [((0, 1), (((6, 1), ((1, 8),)),))])
        other = Book(LAND, [SOLD, ("grant", 6, "bob", (0, 1), (6, 1))])
        self.assertEqual(changes(one, other).rows(), [((0, 1), (((6, 1), ((1, 4), (6, 9))),))])

    def test_none_between_a_book_and_its_copy(self):
        for book in books(20, 18):
            self.assertEqual(changes(book, book.copy()), Sheet([]))
            self.assertEqual(changes(book, book), Sheet([]))
        one = Book(LAND, [SOLD, USE], back=[GRANT])
        other = Book(LAND, [SOLD, USE, GRANT, ("grant", 1, "cid", (0, 3), (6, 3))], back=[GRANT])
        self.assertEqual(changes(one, other), Sheet([]))

    def test_slowly_in_the_one_form(self):
        for one, other in two_books(60, 19):
            left, right = Slow(one), Slow(other)
            told = {}
            for pair in left.pairs:
                words = zip(left.stands[pair], right.stands[pair])
                told[pair] = tuple(spans_where([a[0] != b[0] for a, b in words]))
            told = {pair: spans for pair, spans in told.items() if spans}
            self.assertEqual(changes(one, other).rows(), form_of(told))
            self.assertEqual(changes(other, one), changes(one, other))

    def test_from_none(self):
        for book in books(20, 20):
            self.assertEqual(changes(Book(book.land()), book), all_spans(book))

    def test_unlike(self):
        land = Land(12, "ann", grow=3, lapse=4, roads=((0, 1),))
        book = Book(land, [SOLD])
        others = [Land(13, "ann", grow=3, lapse=4, roads=((0, 1),)), Land(12, "al", grow=3, lapse=4, roads=((0, 1),)),
                  Land(12, "ann", grow=2, lapse=4, roads=((0, 1),)), Land(12, "ann", grow=3, lapse=5, roads=((0, 1),)),
                  Land(12, "ann", grow=3, lapse=4), Land(12, "ann", grow=3, lapse=4, roads=((0, 2),))]
        for call in (changes, parted):
            for other in others:
                for one, two in itertools.permutations([book, Book(other)]):
                    with self.assertRaises(Unlike) as caught:
                        call(one, two)
                    self.assertIs(type(caught.exception), Unlike)
            self.assertFalse(call(book, Book(Land(12, "ann", grow=3, lapse=4, roads=((0, 1),)))))


class TestCountsQuietParted(unittest.TestCase):
    def test_counts(self):
        sold = ("sale", 0, (9, 3), "cid")
        book = Book(LAND, [SOLD, sold, USE, ("grant", 3, "bob", (0, 12), (6, 2)), ("grant", 3, "cid", (0, 1), (8, 2))])
        self.assertEqual(counts(book, 2), {})
        # Of the last grant cell 8 is bob's, not cid's.
        self.assertEqual(counts(book, 3), {("ann", "bob"): 12, ("cid", "bob"): 6, ("ann", "cid"): 1})
        self.assertIs(type(counts(book, 3)), dict)

    def test_counts_slowly(self):
        for book in books(40, 21):
            slow = Slow(book)
            for day in slow.days:
                told = {}
                for x, y in slow.ways(day):
                    hands = (slow.hands[day][x], slow.hands[day][y])
                    told[hands] = told.get(hands, 0) + 1
                self.assertEqual(counts(book, day), told)
                self.assertEqual(sum(told.values()), ways(book, day).area())

    def test_quiet(self):
        self.assertEqual(quiet(Book(LAND)), 0)
        self.assertEqual(quiet(Book(LAND, [SOLD])), 0)
        self.assertEqual(quiet(Book(LAND, [SOLD, ("use", 0, 1, (0, 1), (6, 1), False)])), 0)
        self.assertEqual(quiet(BOOK), 7)
        self.assertEqual(quiet(Book(LAND, [SOLD, ("grant", 0, "bob", (0, 1), (6, 1))])), 4)
        self.assertEqual(quiet(Book(LAND, [SOLD, GRANT, ("end", 3, "ann", (0, 6), (6, 6))])), 3)
        self.assertEqual(quiet(Book(LAND, [SOLD, ("use", 0, LAST, (0, 1), (6, 1), False)])), LAST + 4)

    def test_quiet_slowly(self):
        for book in books(60, 22):
            day = quiet(book)
            pairs = list(itertools.product(range(4), repeat=2))
            self.assertTrue(all(next_change(book, x, y, day) is None for x, y in pairs))
            if day > 0:
                self.assertTrue(any(next_change(book, x, y, day - 1) == day for x, y in pairs))

    def test_parted(self):
        one = Book(LAND, [SOLD, USE])
        self.assertIsNone(parted(one, one.copy()))
        self.assertIsNone(parted(one, one))
        self.assertEqual(parted(one, BOOK), (2, 2, 7))
        self.assertEqual(parted(BOOK, one), (2, 2, 7))
        # A later day of a pair that is first in order counts less than an earlier day.
        other = Book(LAND, [SOLD, ("grant", 1, "bob", (4, 1), (6, 3)), ("grant", 2, "bob", (0, 1), (6, 1))])
        self.assertEqual(parted(Book(LAND, [SOLD]), other), (1, 4, 6))
        self.assertIs(type(parted(one, BOOK)), tuple)

    def test_parted_slowly(self):
        for one, other in two_books(80, 23):
            left, right = Slow(one), Slow(other)
            told = [(day, *pair) for day in left.days for pair in left.pairs
                    if left.stands[pair][day][0] != right.stands[pair][day][0]]
            self.assertEqual(parted(one, other), min(told, default=None))


class TestFar(unittest.TestCase):
    def test_far_land_and_days(self):
        land = Land(LAST, "ann", grow=MOST, lapse=MOST)
        half = LAST // 2
        first = LAST - 2 * MOST
        deeds = [("sale", 0, (half, half), "bob"), ("use", first, first + MOST - 1, (0, half), (half, half), False)]
        book = Book(land, deeds)
        turn = first + MOST - 1
        self.assertEqual(stands(book, turn - 1).rows(), [((0, half), (((half, half), ("none", MOST - 1)),))])
        self.assertEqual(ways(book, turn).rows(), [((0, half), (((half, half), True),))])
        self.assertEqual(ways(book, turn).area(), half * half)
        self.assertEqual(counts(book, turn), {("ann", "bob"): half * half})
        span = (turn, turn + MOST - 1)
        self.assertEqual(all_spans(book).rows(), [((0, half), (((half, half), (span,)),))])
        self.assertEqual(quiet(book), turn + MOST)
        self.assertEqual(parted(Book(land), book), (turn, 0, half))
        self.assertEqual(changes(Book(land, deeds[:1]), book), all_spans(book))

    def test_thirty_deeds(self):
        chance = random.Random(24)
        for _ in range(6):
            one, other = wide_book(chance, days=5 * MOST), wide_book(chance, days=5 * MOST)
            for day in [chance.randrange(7 * MOST) for _ in range(3)] + [LAST]:
                told = stands(one, day)
                for x, y in [(chance.randrange(LAST), chance.randrange(LAST)) for _ in range(20)]:
                    standing = stand(one, x, y, day)
                    self.assertEqual(told.at(x, y), None if standing == ("none", 0) else standing)
                    self.assertEqual(ways(one, day).at(x, y), True if standing[0] == "way" else None)
                self.assertEqual(sum(counts(one, day).values()), ways(one, day).area())
            sheet = all_spans(one)
            for x, y in [(chance.randrange(LAST), chance.randrange(LAST)) for _ in range(40)]:
                self.assertEqual(list(sheet.at(x, y) or ()), spans(one, x, y))
            told = parted(one, other)
            rows = changes(one, other)
            self.assertEqual(rows == Sheet([]), told is None)
            if told is not None:
                day, x, y = told
                self.assertNotEqual(stand(one, x, y, day)[0], stand(other, x, y, day)[0])
                self.assertEqual(rows.at(x, y)[0][0], day)

    def test_thirty_deeds_that_part_the_land_most(self):
        # No two stretches share a bound, and each lies over many others.
        land = Land(LAST, "ann", grow=2, lapse=2)
        step = LAST // 100
        deeds = [("use", at, at + 4, (at * step, 60 * step), ((30 - at) * step, 50 * step), False) for at in range(28)]
        deeds += [("sale", 0, (49 * step + 7, LAST - 49 * step - 7), "bob"), ("sale", 9, (75 * step + 1, 5), "cid")]
        book = Book(land, deeds)
        for day in (0, 3, 20, 40):
            self.assertEqual(sum(counts(book, day).values()), ways(book, day).area())
        self.assertTrue(all_spans(book))
        self.assertTrue(changes(book, Book(land, deeds[:15] + deeds[-2:])))


class TestOrder(unittest.TestCase):
    """[3]: nothing hangs on the order of telling; land and days may be stretched."""

    def state(self, book):
        return [ways(book, day) for day in range(0, 30, 3)] + [all_spans(book), quiet(book), counts(book, 9)]

    def test_told_in_any_order_merged_and_taken_back(self):
        chance = random.Random(25)
        for _ in range(20):
            whole = any_book(chance)
            deeds = whole.told()
            chance.shuffle(deeds)
            half = len(deeds) // 2
            more = [deed for deed in any_book(chance).told() if not whole.stands(deed)]
            one = Book(whole.land(), deeds[:half] + more, back=whole.back())
            other = Book(whole.land(), deeds[half:], back=more)
            self.assertEqual(self.state(one.merged(other)), self.state(whole))
            self.assertEqual(changes(one.merged(other), whole), Sheet([]))
            self.assertIsNone(parted(whole, other.merged(one)))

    def test_each_cell_a_block_of_many(self):
        for book in books(20, 26):
            land = book.land()
            wide = Land(4 * MOST, land.hand(), grow=land.grow(), lapse=land.lapse())
            deeds = []
            for deed in book.deeds():
                deeds.append(tuple((part[0] * MOST, part[1] * MOST) if isinstance(part, tuple) else part for part in deed))
            far = Book(wide, deeds)
            for near, wide_sheet in zip(self.state(book)[:11], self.state(far)[:11]):
                boxes = [((a * MOST, b * MOST), (c * MOST, d * MOST), value)
                         for (a, b), parts in near.rows() for (c, d), value in parts]
                self.assertEqual(wide_sheet, Sheet(boxes))


class TestRefused(unittest.TestCase):
    def test_no_day(self):
        before = (BOOK.told(), BOOK.back())
        for call in (ways, stands, counts):
            for thing in NO_DAYS:
                with self.assertRaises(NoDay) as caught:
                    call(BOOK, thing)
                self.assertIs(type(caught.exception), NoDay)
                self.assertEqual(caught.exception.day, thing)
                self.assertIs(type(caught.exception.day), type(thing))
            # Asked rightly behind it, it is answered.
            self.assertTrue(call(BOOK, 3))
            self.assertFalse(call(BOOK, BIG))
        self.assertEqual((BOOK.told(), BOOK.back()), before)


class TestOwn(unittest.TestCase):
    def test_told_dicts_and_lists_are_the_askers_own(self):
        told = counts(BOOK, 3)
        before = dict(told)
        told["x"] = 1
        told[("ann", "bob")] = 0
        self.assertEqual(counts(BOOK, 3), before)
        for call in (lambda: ways(BOOK, 3), lambda: stands(BOOK, 3), lambda: all_spans(BOOK),
                     lambda: changes(Book(LAND), BOOK)):
            rows = call().rows()
            before = list(rows)
            rows.clear()
            self.assertEqual(call().rows(), before)
            self.assertIsNot(call(), call())

    def test_nothing_told_later_changes_what_was_told(self):
        book = Book(LAND, [SOLD, USE])
        sheet, numbers, spread = ways(book, 3), counts(book, 3), all_spans(book)
        before = (sheet.rows(), dict(numbers), spread.rows())
        book.tell(GRANT)
        self.assertEqual((sheet.rows(), numbers, spread.rows()), before)
        self.assertNotEqual(ways(book, 3), sheet)
        self.assertNotEqual(counts(book, 3), numbers)
        self.assertNotEqual(all_spans(book), spread)
        book.take_back(GRANT)
        self.assertEqual((ways(book, 3), counts(book, 3), all_spans(book)), (sheet, numbers, spread))

    def test_by_names(self):
        other = Book(LAND, [SOLD])
        self.assertEqual(ways(day=3, book=BOOK), ways(BOOK, 3))
        self.assertEqual(stands(day=3, book=BOOK), stands(BOOK, 3))
        self.assertEqual(counts(day=3, book=BOOK), counts(BOOK, 3))
        self.assertEqual(all_spans(book=BOOK), all_spans(BOOK))
        self.assertEqual(quiet(book=BOOK), quiet(BOOK))
        self.assertEqual(changes(other=other, one=BOOK), changes(BOOK, other))
        self.assertEqual(parted(other=other, one=BOOK), parted(BOOK, other))

    def test_of_cells_that_are_sold_while_the_book_stays(self):
        chance = random.Random(27)
        for _ in range(10):
            book = any_book(chance)
            pieces = [any_stretch(chance, 4) for _ in range(3)]
            for day, piece in enumerate(pieces):
                all_spans(book)
                book.tell(("sale", day, piece, "dan"))
                self.assertEqual(all_spans(book), all_spans(Book(book.land(), book.deeds())))


if __name__ == "__main__":
    unittest.main()
