"""[10] to [12], [2]: books that are asked again and again, between tellings, and of many pairs on many days."""

import itertools
import random
import unittest
from unittest import mock

from oldways import histories, history
from oldways.book import Book
from oldways.errors import NoCell, NoDay
from oldways.land import Land
from oldways.pairs import next_change, seen, spans, stand
from tests.anything import BIG
from tests.slow import Slow, any_book, any_deed, spans_where

LAST = 10 ** 30
DAYS = (*range(71), LAST, BIG)
# Land of 18 cells in two hands, and a book of eighteen deeds.
LAND = Land(18, "ann", grow=3, lapse=4)
DEEDS = [("use", day, day + 2, (0, 9), (9, 9), day % 2 == 0) for day in range(1, 60, 4)]
DEEDS += [("sale", 0, (9, 9), "bob"), ("grant", 5, "bob", (0, 9), (9, 9)), ("end", 7, "ann", (0, 9), (9, 9))]
PAIRS = [(0, 9), (8, 17), (3, 12), (9, 0), (4, 4), (0, 1)]


def told_of(book, x, y, days=DAYS):
    """All that is told of a pair."""
    rows = [(stand(book, x, y, day), seen(book, x, y, day), next_change(book, x, y, day)) for day in days]
    return rows, spans(book, x, y)


def state(book, pairs=PAIRS, days=range(0, 24)):
    """All that a book tells of some pairs."""
    return [told_of(book, x, y, days) for x, y in pairs]


def anew(book):
    """A book that is made anew of the same deeds."""
    return Book(Land(book.land().cells(), book.land().hand(), grow=book.land().grow(), lapse=book.land().lapse()), book.deeds())


class TestAnswers(unittest.TestCase):
    def test_the_book_that_was_slow(self):
        book = Book(LAND, DEEDS)
        slow = Slow(book, 75)
        for x, y in itertools.product(range(18), repeat=2):
            stands = slow.stands[(x, y)]
            words = [word for word, _ in stands]
            changes = [day for day in range(1, 75) if words[day] != words[day - 1]]
            if (x + y) % 3 == 0:
                for day in range(71):
                    self.assertEqual(stand(book, x, y, day), stands[day])
                    self.assertEqual(seen(book, x, y, day), slow.seen[(x, y)][day])
                    later = [change for change in changes if change > day]
                    self.assertEqual(next_change(book, x, y, day), later[0] if later else None)
            self.assertEqual(spans(book, x, y), spans_where([word == "way" for word in words]))

    def test_in_whatever_order_it_is_asked(self):
        chance = random.Random(111)
        for _ in range(15):
            book = any_book(chance)
            pairs = list(itertools.product(range(4), repeat=2))
            asks = [(call, x, y, day) for x, y in pairs for day in (0, 3, 7, 12, BIG) for call in (stand, seen, next_change)]
            asks += [(lambda book, x, y, day: spans(book, x, y), x, y, 0) for x, y in pairs]
            wanted = {ask: ask[0](anew(book), *ask[1:]) for ask in asks}
            for _ in range(2):
                chance.shuffle(asks)
                for call, x, y, day in asks:
                    self.assertEqual(call(book, x, y, day), wanted[(call, x, y, day)])


class TestBetweenTellings(unittest.TestCase):
    """Each time the answers of a book that is made anew of the same deeds."""

    PAIRS = list(itertools.product(range(4), repeat=2))

    def assert_anew(self, book):
        self.assertEqual(state(book, self.PAIRS, range(0, 22, 3)), state(anew(book), self.PAIRS, range(0, 22, 3)))

    def test_told_and_taken_back(self):
        chance = random.Random(112)
        for _ in range(12):
            book = any_book(chance)
            self.assert_anew(book)
            for _ in range(10):
                deed = any_deed(chance, 4, 16)
                act, told = chance.choice([(book.tell, deed), (book.tell, deed), (book.take_back, deed)] + [
                    (book.take_back, other) for other in book.told()[:2]])
                ahead = state(book, self.PAIRS, (5,))
                deeds = book.deeds()
                other = act(told)
                self.assertEqual(other, deeds != book.deeds())
                self.assert_anew(book)
                if not other:
                    self.assertEqual(state(book, self.PAIRS, (5,)), ahead)

    def test_told_again_behind_being_taken_back(self):
        book = Book(LAND, DEEDS)
        wanted = state(book)
        grant = DEEDS[-2]
        book.take_back(grant)
        self.assertNotEqual(state(book), wanted)
        without = state(book)
        book.tell(grant)
        self.assertEqual(state(book), without)
        self.assertEqual(without, state(Book(LAND, [deed for deed in DEEDS if deed != grant])))

    def test_each_deed_taken_back_on_its_own(self):
        for deed in DEEDS:
            book = Book(LAND, DEEDS)
            before = state(book, PAIRS[:2])
            book.take_back(deed)
            self.assertEqual(state(book, PAIRS[:2]), state(anew(book), PAIRS[:2]))
            self.assertEqual(state(Book(LAND, DEEDS), PAIRS[:2]), before)

    def test_merged_and_copied(self):
        chance = random.Random(113)
        for _ in range(12):
            one = any_book(chance)
            other = Book(one.land(), [any_deed(chance, 4, 16) for _ in range(6)], back=one.told()[:1])
            before = (state(one, self.PAIRS, (5,)), state(other, self.PAIRS, (5,)))
            merged, like = one.merged(other), one.copy()
            self.assert_anew(merged)
            self.assert_anew(like)
            deed = any_deed(chance, 4, 16)
            for book in (merged, like):
                book.tell(deed)
                self.assert_anew(book)
            self.assertEqual((state(one, self.PAIRS, (5,)), state(other, self.PAIRS, (5,))), before)
            one.tell(deed)
            self.assert_anew(one)
            self.assert_anew(like)
            self.assertEqual(state(other, self.PAIRS, (5,)), before[1])

    def test_a_refusal_between(self):
        book = Book(LAND, DEEDS)
        wanted = state(book)
        for ask in (lambda: stand(book, 18, 0, 1), lambda: seen(book, 0, -1, 1), lambda: spans(book, True, 1)):
            with self.assertRaises(NoCell):
                ask()
        for call in (stand, seen, next_change):
            with self.assertRaises(NoDay):
                call(book, 0, 9, True)
            # True is no cell, though 1 has been asked about; and no day, though day 1 has.
            call(book, 1, 9, 1)
            with self.assertRaises(NoCell):
                call(book, True, 9, 1)
            with self.assertRaises(NoCell):
                call(book, 18, 9, True)
        with self.assertRaises(ValueError):
            book.tell(("use", 9, 8, (0, 1), (9, 1), False))
        self.assertEqual(state(book), wanted)


class TestOwn(unittest.TestCase):
    def test_a_list_that_was_told_changes_no_later_answer(self):
        book = Book(LAND, DEEDS)
        for x, y in PAIRS:
            wanted = list(spans(book, x, y))
            told = spans(book, x, y)
            told.append((99, 99))
            told[0] = None
            self.assertEqual(spans(book, x, y), wanted)
            self.assertIsNot(spans(book, x, y), spans(book, x, y))
            told.clear()
            self.assertEqual(spans(book, x, y), wanted)
            self.assertEqual(spans(book.copy(), x, y), wanted)

    def test_cells_that_are_alike_are_told_lists_of_their_own(self):
        book = Book(LAND, DEEDS)
        spans(book, 0, 9).clear()
        self.assertEqual(spans(book, 1, 10), spans(Book(LAND, DEEDS), 1, 10))
        self.assertTrue(spans(book, 1, 10))

    def test_lists_of_deeds_changed_behind_asking(self):
        told = list(DEEDS)
        book = Book(LAND, told)
        wanted = state(book)
        told.clear()
        for rows in (book.told(), book.deeds(), book.back()):
            rows.clear()
        self.assertEqual(state(book), wanted)


class TestWork(unittest.TestCase):
    """What is worked out of a pair is worked out once, for all pairs that are alike."""

    def work(self, ask):
        """How many histories are made, and how often one is gone through, while it is asked."""
        with mock.patch.object(histories, "History", wraps=histories.History) as made:
            with mock.patch.object(history, "leapt", wraps=history.leapt) as leapt:
                ask()
        return made.call_count, leapt.call_count

    def test_one_pair_on_many_days(self):
        def ask():
            book = Book(LAND, DEEDS)
            for day in range(20):
                stand(book, 3, 12, day), seen(book, 3, 12, day), next_change(book, 3, 12, day), spans(book, 3, 12)
        made, leaps = self.work(ask)
        self.assertEqual(made, 1)
        self.assertLess(leaps, 20 + 4 * len(DEEDS))

    def test_alike_pairs(self):
        def ask():
            book = Book(LAND, DEEDS)
            for x, y in itertools.product(range(9), range(9, 18)):
                spans(book, x, y)
        self.assertEqual(self.work(ask)[0], 1)

    def test_no_more_is_kept_than_deeds_make(self):
        book = Book(Land(LAST, "ann"), [("use", 0, 9, (0, LAST // 2), (LAST // 2, 5), False)])
        def ask():
            for at in range(300):
                spans(book, at * 10 ** 20, LAST // 2 + at)
        self.assertLessEqual(self.work(ask)[0], 2)

    def test_more_pairs_than_are_known_at_once(self):
        chance = random.Random(114)
        pairs = list(itertools.product(range(4), repeat=2))
        for most in (1, 2, 5):
            with mock.patch.object(histories, "MOST_PAIRS", most):
                book = any_book(chance)
                wanted = {pair: told_of(anew(book), *pair, range(20)) for pair in pairs}
                for _ in range(3):
                    chance.shuffle(pairs)
                    for pair in pairs:
                        self.assertEqual(told_of(book, *pair, range(20)), wanted[pair])
                        # However many pairs are asked about, no more are kept.
                        self.assertLessEqual(len(vars(book.histories())["_pairs"]), most)

    def test_a_telling_that_changes_nothing(self):
        book = Book(LAND, DEEDS)
        def ask():
            for _ in range(5):
                stand(book, 3, 12, 9)
                book.tell(DEEDS[0])
                book.take_back(("sale", 99, (0, 1), "cid"))
        self.assertEqual(self.work(ask)[0], 1)


if __name__ == "__main__":
    unittest.main()
