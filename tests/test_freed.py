"""[18], [21], [3], [2]: how the land comes free, by deals and by waiting."""

import copy
import itertools
import random
import unittest

from oldways.book import Book
from oldways.errors import NoDay, NoHand
from oldways.freed import free_by, freed, is_freed
from oldways.hands import hand_at, held
from oldways.land import Land, is_hand
from oldways.maps import ways
from oldways.pairs import stand
from tests.anything import ANYTHING, BIG, NOT_WHOLE, variants
from tests.slow import Slow, books, slow_step

LAST = 10 ** 30
MOST = 10 ** 12
NO_DAYS = (-1, -LAST, -BIG) + NOT_WHOLE
LAND = Land(12, "ann", grow=3, lapse=4)
# Cells 0 to 2 are ann's, 3 to 5 bob's, 6 to 8 cid's, 9 to 11 dan's.
SOLD = [("sale", 0, (3, 3), "bob"), ("sale", 0, (6, 3), "cid"), ("sale", 0, (9, 3), "dan")]
CELLS = {"ann": 0, "bob": 3, "cid": 6, "dan": 9}


def tie(one, other, day=1):
    """A grant by which ways lead from the one's first cell over the other's."""
    return ("grant", day, other, (CELLS[one], 1), (CELLS[other], 1))


def book_of(*deeds):
    return Book(LAND, [*SOLD, *deeds])


def hands_of(slow, day):
    """The pairs of hands between which ways lead, and the ways."""
    pairs = slow.ways(day)
    return {(slow.hands[day][x], slow.hands[day][y]) for x, y in pairs}, pairs


def dealt(hands, deals):
    """Who holds in the end what each hand held, deal by deal."""
    holders = {hand: hand for hand in hands}
    for giver, taker in deals:
        for hand in hands:
            if holders[hand] == giver:
                holders[hand] = taker
    return holders


def frees(ties, deals):
    hands = sorted({hand for pair in ties for hand in pair})
    holders = dealt(hands, deals)
    return all(holders[one] == holders[other] for one, other in ties)


def makes_ring(ties):
    """Whether any of the ties can be gone around: sought by leaving out hands with one tie."""
    ties = list(ties)
    while ties:
        ends = [hand for pair in ties for hand in pair]
        left = [pair for pair in ties if ends.count(pair[0]) > 1 and ends.count(pair[1]) > 1]
        if left == ties:
            return True
        ties = left
    return False


def slow_is_freed(slow, day, thing):
    """Whether any thing is such a tuple, by the words of [18]."""
    ties, pairs = hands_of(slow, day)
    if type(thing) is not tuple or len(thing) != 2 or any(type(part) is not list for part in thing):
        return False
    deals, told = thing
    if len(deals) != len(told):
        return False
    for deal in deals:
        if type(deal) is not tuple or len(deal) != 2 or not is_hand(deal[0]) or not is_hand(deal[1]):
            return False
    for pair in told:
        if type(pair) is not tuple or [type(cell) for cell in pair] != [int, int] or pair not in pairs:
            return False
    return frees(ties, deals) and not makes_ring([(slow.hands[day][x], slow.hands[day][y]) for x, y in told])


class TestFreed(unittest.TestCase):
    def assert_freed(self, book, day, many):
        told = freed(book, day)
        self.assertEqual([len(part) for part in told], [many, many], told)
        self.assertEqual([type(part) for part in (told, *told)], [tuple, list, list])
        self.assertTrue(all(type(row) is tuple and len(row) == 2 for part in told for row in part))
        self.assertIs(is_freed(book, day, told), True)
        return told

    def test_none_at_all(self):
        self.assertEqual(freed(Book(LAND), 0), ([], []))
        self.assertEqual(freed(book_of(), 5), ([], []))
        self.assertEqual(freed(book_of(tie("ann", "bob")), 0), ([], []))
        self.assertEqual(freed(book_of(tie("ann", "bob")), 5), ([], []))
        self.assertEqual(freed(book_of(tie("ann", "bob")), BIG), ([], []))

    def test_one_way(self):
        deals, pairs = self.assert_freed(book_of(tie("ann", "bob")), 1, 1)
        self.assertEqual(pairs, [(0, 3)])
        self.assertIn(deals, [[("ann", "bob")], [("bob", "ann")]])

    def test_many_ways_between_two_hands(self):
        book = book_of(("grant", 1, "bob", (0, 3), (3, 3)), ("grant", 1, "ann", (3, 3), (0, 3)))
        self.assert_freed(book, 1, 1)

    def test_chains_stars_rings_and_two_lots(self):
        names = ("ann", "bob", "cid", "dan")
        for ties, many in [(["ab", "bc", "cd"], 3), (["ab", "ac", "ad"], 3), (["ba", "ca", "da"], 3), (["ab", "bc", "ca"], 2),
                           (["ab", "cd"], 2), (["ab", "ba", "cd", "dc"], 2), (["ab", "bc", "cd", "da"], 3), (["ad"], 1)]:
            book = book_of(*[tie(names["abcd".index(one)], names["abcd".index(other)]) for one, other in ties])
            self.assert_freed(book, 1, many)

    def test_slowly_as_few_as_can_be(self):
        for book in books(60, 181, cells=6):
            slow = Slow(book, 24)
            for day in slow.days:
                ties, pairs = hands_of(slow, day)
                deals, told = freed(book, day)
                self.assertTrue(frees(ties, deals))
                self.assertEqual(len(deals), len(told))
                self.assertTrue(all(pair in pairs for pair in told))
                self.assertFalse(makes_ring([(slow.hands[day][x], slow.hands[day][y]) for x, y in told]))
                hands = sorted({hand for pair in ties for hand in pair})
                fewer = itertools.product(itertools.permutations(hands, 2), repeat=max(0, len(deals) - 1))
                if deals:
                    self.assertFalse(any(frees(ties, row) for row in fewer))

    def test_behind_the_deals_the_book_has_no_ways(self):
        """[3]: the sales that are told to free the land do so, told to the book as sales."""
        for book in books(40, 182, cells=6):
            for day in (3, 7, 12):
                deals, _ = freed(book, day)
                land, told = book.land(), [deed for deed in book.deeds() if deed[0] == "sale"]
                other = Book(land, told)
                for giver, taker in deals:
                    for stretch in held(other, giver, day):
                        other.take_back(("sale", day, stretch, taker))
                        other = Book(land, other.deeds())
                    moved = [("sale", day, stretch, taker) for stretch in held(other, giver, day)]
                    others = [("sale", day, stretch, hand) for hand in {"ann", "bob", "cid"} - {giver}
                              for stretch in held(other, hand, day)]
                    other = Book(land, moved + others)
                for (first, many), parts in ways(book, day).rows():
                    for (over, wide), _ in parts:
                        for x, y in itertools.product(range(first, first + many), range(over, over + wide)):
                            self.assertEqual(hand_at(other, x, day), hand_at(other, y, day))

    def test_far(self):
        land = Land(LAST, "ann", grow=MOST, lapse=MOST)
        names = [letter * 3 for letter in "bcdefghijklmno"]
        wide = LAST // 20
        deeds = [("sale", at, (at * wide, wide), name) for at, name in enumerate(names, start=1)]
        deeds += [("grant", LAST, name, (0, LAST), (at * wide, wide)) for at, name in enumerate(names, start=1)]
        book = Book(land, deeds)
        for day in (LAST, LAST + MOST - 1):
            self.assert_freed(book, day, 14)
        self.assert_freed(book, LAST - 1, 0)
        self.assert_freed(book, LAST + MOST, 0)


class TestIsFreed(unittest.TestCase):
    BOOK = book_of(tie("ann", "bob"), tie("bob", "cid"), tie("cid", "ann"), ("grant", 1, "bob", (1, 1), (4, 1)))
    PAIRS = [(0, 3), (3, 6)]

    def assert_told(self, truth, deals, pairs, day=1):
        self.assertIs(is_freed(self.BOOK, day, (deals, pairs)), truth, (deals, pairs))

    def test_any_deals_that_do_so(self):
        for deals in itertools.product(itertools.permutations(("ann", "bob", "cid"), 2), repeat=2):
            holders = dealt(("ann", "bob", "cid"), deals)
            self.assert_told(len(set(holders.values())) == 1, list(deals), self.PAIRS)

    def test_in_another_order(self):
        self.assert_told(True, [("ann", "bob"), ("bob", "cid")], self.PAIRS)
        self.assert_told(False, [("bob", "cid"), ("ann", "bob")], self.PAIRS)
        self.assert_told(True, [("ann", "bob"), ("bob", "cid")], self.PAIRS[::-1])

    def test_deals_that_do_nothing(self):
        self.assert_told(False, [("ann", "ann"), ("bob", "cid")], self.PAIRS)
        self.assert_told(False, [("zed", "ann"), ("bob", "cid")], self.PAIRS)
        self.assert_told(False, [("ann", "bob"), ("bob", "cid"), ("ann", "ann")], self.PAIRS)
        self.assert_told(False, [("ann", "bob"), ("bob", "cid"), ("zed", "ann")], self.PAIRS + [(6, 0)])

    def test_a_hand_that_holds_nothing_takes(self):
        self.assert_told(False, [("ann", "zed"), ("bob", "zed")], self.PAIRS)
        self.assert_told(False, [("ann", "bob"), ("bob", "zed")], self.PAIRS)
        book = book_of(tie("ann", "bob"), tie("cid", "dan"))
        self.assertIs(is_freed(book, 1, ([("ann", "bob"), ("bob", "cid")], [(0, 3), (6, 9)])), False)
        self.assertIs(is_freed(book, 1, ([("ann", "bob"), ("dan", "cid")], [(0, 3), (6, 9)])), True)

    def test_ways_that_make_a_ring(self):
        self.assert_told(False, [("ann", "bob"), ("bob", "cid")], [(0, 3), (1, 4)])
        self.assert_told(False, [("ann", "bob"), ("bob", "cid")], [(0, 3), (0, 3)])
        for pairs in itertools.permutations([(0, 3), (3, 6), (6, 0)], 2):
            self.assert_told(True, [("ann", "bob"), ("bob", "cid")], list(pairs))
        self.assert_told(True, [("ann", "bob"), ("bob", "cid")], [(1, 4), (3, 6)])
        self.assert_told(False, [("ann", "bob"), ("bob", "cid"), ("dan", "cid")], [(0, 3), (3, 6), (6, 0)])

    def test_pairs_that_are_no_ways(self):
        for pair in [(3, 0), (0, 4), (0, 0), (0, 12), (12, 0), (-1, 3), (0, -9), (False, 3), (0, 3.0), (0, 3, 6), [0, 3], None]:
            self.assert_told(False, [("ann", "bob"), ("bob", "cid")], [pair, (3, 6)])
        self.assert_told(False, [("ann", "bob"), ("bob", "cid")], self.PAIRS, 0)
        self.assert_told(False, [("ann", "bob"), ("bob", "cid")], self.PAIRS, 5)
        self.assert_told(False, [], [])
        self.assert_told(True, [], [], 0)
        self.assert_told(True, [], [], BIG)
        # Of a day without ways a deal is too many.
        self.assert_told(False, [("ann", "bob")], [], 0)

    def test_a_part_put_otherwise(self):
        chance = random.Random(183)
        for book in [self.BOOK] + books(25, 184, cells=6):
            slow = Slow(book, 24)
            for day in (0, 1, 3, 5, 8, 11, 15):
                told = freed(book, day)
                self.assertIs(is_freed(book, day, told), True)
                things = variants(told)
                for thing in things if book is self.BOOK else chance.sample(things, min(60, len(things))):
                    self.assertIs(is_freed(book, day, thing), slow_is_freed(slow, day, thing), thing)

    def test_any_thing(self):
        more = (([], []), ([],), [[], []], ([], [], []), ([None], [None]), ([("ann", "bob")], [None]), ([()], [()]),
                (["ab"], ["ab"]), ([("ann", "bob")], ["03"]), ([["ann", "bob"]], [(0, 3)]), (([], []),), (None, None), ((), ()))
        for thing in ANYTHING + more:
            before = copy.deepcopy(thing)
            self.assertIs(is_freed(self.BOOK, 1, thing), False, thing)
            self.assertIs(is_freed(book_of(), 1, thing), thing == ([], []), thing)
            self.assertEqual(thing, before)


class TestFreeBy(unittest.TestCase):
    def test_free_at_once(self):
        self.assertEqual(free_by(Book(LAND), "ann", 0), 0)
        book = book_of(tie("ann", "bob"))
        for hand, day in [("ann", 1), ("bob", 0), ("bob", 5), ("cid", 1), ("bob", BIG)]:
            self.assertEqual(free_by(book, hand, day), day)

    def test_by_lapse(self):
        book = book_of(tie("ann", "bob"))
        self.assertEqual([free_by(book, "bob", day) for day in range(1, 7)], [5, 5, 5, 5, 5, 6])
        book = book_of(tie("ann", "bob"), tie("cid", "bob", 3), ("use", 4, 4, (0, 1), (3, 1), True))
        self.assertEqual([free_by(book, "bob", day) for day in range(1, 10)], [5, 5, 7, 8, 8, 8, 8, 8, 9])

    def test_nothing_that_is_told_behind_the_day_counts(self):
        book = book_of(tie("ann", "bob"), ("end", 3, "ann", (0, 3), (0, 12)), ("use", 2, 2, (0, 1), (3, 1), False))
        self.assertEqual(free_by(book, "bob", 1), 5)
        self.assertEqual(free_by(book, "bob", 2), 6)
        self.assertEqual(free_by(book, "bob", 3), 3)
        sold = ("sale", 3, (3, 3), "cid")
        book = book_of(tie("ann", "bob"), sold)
        self.assertEqual(free_by(book, "bob", 2), 5)
        self.assertEqual(free_by(book, "cid", 2), 2)
        self.assertEqual(free_by(book, "cid", 3), 5)
        grown = book_of(("use", 1, 9, (0, 1), (3, 1), False))
        self.assertEqual(free_by(grown, "bob", 2), 2)
        self.assertEqual(free_by(grown, "bob", 3), 7)

    def test_the_land_that_it_holds_on_the_day_alone(self):
        land = Land(3, "ann", grow=3, lapse=4)
        book = Book(land, [("sale", 0, (1, 2), "bob"), ("grant", 1, "bob", (0, 1), (1, 1)), ("grant", 2, "bob", (0, 1), (2, 1)),
                           ("sale", 2, (1, 1), "cid")])
        self.assertEqual(free_by(book, "bob", 2), 6)
        self.assertEqual(free_by(book, "cid", 2), 5)

    def test_slowly(self):
        for book in books(60, 185, cells=5):
            slow = Slow(book, 24)
            for day in slow.days:
                stands = {pair: slow.stands[pair][day] for pair in slow.pairs}
                for hand in ("ann", "bob", "cid"):
                    cells = [cell for cell in slow.cells if slow.hands[day][cell] == hand]
                    if not cells:
                        with self.assertRaises(NoHand):
                            free_by(book, hand, day)
                        continue
                    self.assertEqual(free_by(book, hand, day), self.waited(slow, dict(stands), cells, day))

    def waited(self, slow, stands, cells, day):
        """The first day on which no way leads over these cells, waited for day by day."""
        hands = slow.hands[day]
        while any(word == "way" and y in cells and hands[x] != hands[y] for (x, y), (word, _) in stands.items()):
            day += 1
            for (x, y), standing in stands.items():
                stands[(x, y)] = slow_step(slow.land, standing, (hands[x] == hands[y], False, False, False, False))
        return day

    def test_far(self):
        land = Land(LAST, "ann", grow=MOST, lapse=MOST)
        half = LAST // 2
        book = Book(land, [("sale", 0, (half, half), "bob"), ("grant", LAST - 5, "bob", (0, half), (half, half))])
        self.assertEqual(free_by(book, "bob", LAST - 6), LAST - 6)
        self.assertEqual(free_by(book, "bob", LAST - 5), LAST - 5 + MOST)
        self.assertEqual(free_by(book, "bob", LAST), LAST - 5 + MOST)
        self.assertEqual(free_by(book, "bob", BIG), BIG)
        self.assertEqual(stand(book, 0, half, LAST - 5 + MOST), ("none", 0))


class TestRefused(unittest.TestCase):
    BOOK = book_of(tie("ann", "bob"))

    def assert_refused(self, error, field, thing, call, *told):
        with self.assertRaises(error) as caught:
            call(self.BOOK, *told)
        self.assertIs(type(caught.exception), error)
        self.assertEqual(getattr(caught.exception, field), thing)
        self.assertIs(type(getattr(caught.exception, field)), type(thing))

    def test_no_day(self):
        for thing in NO_DAYS:
            self.assert_refused(NoDay, "day", thing, freed, thing)
            self.assert_refused(NoDay, "day", thing, is_freed, thing, ([], []))
            self.assert_refused(NoDay, "day", thing, is_freed, thing, None)
            self.assert_refused(NoDay, "day", thing, free_by, "bob", thing)

    def test_no_hand(self):
        for thing in ANYTHING + ("zed", "an", "annn", "Ann", "bob ", ("bob",), ["bob"]):
            if thing != "ann":
                self.assert_refused(NoHand, "name", thing, free_by, thing, 1)
        late = Book(LAND, [("sale", 3, (0, 12), "zed")])
        self.assertEqual(free_by(late, "ann", 2), 2)
        self.assertEqual(free_by(late, "zed", 3), 3)
        for hand, day in [("zed", 2), ("ann", 3)]:
            with self.assertRaises(NoHand):
                free_by(late, hand, day)

    def test_no_day_ahead_of_no_hand(self):
        for thing in (-1, None, True, "1"):
            for hand in ("zed", None, [], True):
                self.assert_refused(NoDay, "day", thing, free_by, hand, thing)

    def test_the_field_is_no_list_that_was_handed_in(self):
        hand = ["zed", [1]]
        with self.assertRaises(NoHand) as caught:
            free_by(self.BOOK, hand, 1)
        hand[1].append(2)
        self.assertEqual(caught.exception.name, ["zed", [1]])
        self.assertIsInstance(caught.exception, KeyError)

    def test_answered_behind_a_refusal(self):
        self.assert_refused(NoDay, "day", -1, freed, -1)
        self.assertEqual(freed(self.BOOK, 1)[1], [(0, 3)])
        self.assertEqual(freed(self.BOOK, LAST + 1), ([], []))


class TestOwn(unittest.TestCase):
    def test_told_lists_are_the_askers_own(self):
        book = book_of(tie("ann", "bob"))
        before = copy.deepcopy(freed(book, 1))
        for part in freed(book, 1):
            part.append(None)
            part[0] = None
        self.assertEqual(freed(book, 1), before)
        for part in freed(book, 0):
            part.append(None)
        self.assertEqual(freed(book, 0), ([], []))

    def test_what_is_told_later_counts(self):
        book = book_of(tie("ann", "bob"))
        told = freed(book, 1)
        before = copy.deepcopy(told)
        book.tell(tie("bob", "cid"))
        self.assertEqual(len(freed(book, 1)[0]), 2)
        self.assertIs(is_freed(book, 1, told), False)
        self.assertEqual(told, before)
        book.take_back(tie("bob", "cid"))
        self.assertIs(is_freed(book, 1, told), True)

    def test_what_is_handed_in_stays(self):
        book = book_of(tie("ann", "bob"))
        thing = ([("ann", "bob")], [(0, 3)])
        self.assertIs(is_freed(book, 1, thing), True)
        self.assertEqual(thing, ([("ann", "bob")], [(0, 3)]))

    def test_by_names(self):
        book = book_of(tie("ann", "bob"))
        self.assertEqual(freed(day=1, book=book), freed(book, 1))
        self.assertIs(is_freed(thing=freed(book, 1), day=1, book=book), True)
        self.assertEqual(free_by(day=1, hand="bob", book=book), 5)


if __name__ == "__main__":
    unittest.main()
