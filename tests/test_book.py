"""[8], [2]: books, what was told and taken back, and what stands."""

import copy
import inspect
import itertools
import random
import unittest

from oldways.book import Book
from oldways.errors import NoDeed, TooMany, Unlike
from oldways.land import Land
from oldways.texts import show_deed
from tests.anything import BIG, DEEP, LISTS, NOT_TUPLES, TUPLES, WIDE

LAND = Land(100, "ann", grow=3, roads=((2, 3),))
SALE = ("sale", 3, (4, 5), "bob")
GRANT = ("grant", 3, "ann", (0, 5), (5, 7))
END = ("end", 3, "ann", (0, 5), (5, 7))
USE = ("use", 3, 8, (0, 5), (5, 7), False)
LEAVE = ("use", 3, 8, (0, 5), (5, 7), True)
DEEDS = [SALE, GRANT, END, USE, LEAVE]
# The same in Python's order.
ORDERED = [END, GRANT, SALE, USE, LEAVE]

# What isn't a deed, and the number of its first part that isn't such.
WRONG = [
    (None, 0), ([], 0), ((), 0), (list(SALE), 0), (SALE[:3], 0), (("sale", True) + SALE[2:], 1),
    (("sale", -1) + SALE[2:], 1), (("sale", 3, (99, 2), "bob"), 2), (SALE[:3] + ("Bob",), 3),
    (("use", 3, 2) + USE[3:], 2), (USE[:5] + (0,), 5), (USE[:3] + ([0, 5],) + USE[4:], 3),
    (("sale", 3, (4, [5]), "bob"), 2), (("sale", 3, (4, 5), ["bob"]), 3), (([],) + SALE[1:], 0),
]
ANY = NOT_TUPLES + TUPLES + DEEP + WIDE + tuple(LISTS) + tuple(thing for thing, _ in WRONG)


def sales(many, since=0):
    """So many unlike deeds."""
    return [("sale", since + at, (0, 1), "bob") for at in range(many)]


def state(book):
    """All that a book tells of itself."""
    return (book.told(), book.back(), book.deeds(), len(book), str(book), repr(book))


class BookCase(unittest.TestCase):
    def assert_refused(self, error, field, call, *told, **named):
        with self.assertRaises(error) as caught:
            call(*told, **named)
        if field is not None:
            (name, worth), = field.items()
            self.assertEqual(getattr(caught.exception, name), worth, told)


class TestTold(BookCase):
    def test_none(self):
        book = Book(LAND)
        self.assertEqual(state(book), ([], [], [], 0, "", "Book(0 of 0)"))

    def test_told_in_any_order(self):
        for order in itertools.permutations(DEEDS):
            book = Book(LAND)
            self.assertEqual([book.tell(deed) for deed in order], [True] * 5)
            self.assertEqual(book.told(), ORDERED)
            self.assertEqual(book.deeds(), ORDERED)
            self.assertEqual(book.back(), [])
            self.assertEqual(book, Book(LAND, order))

    def test_told_twice_is_told_once(self):
        book = Book(LAND)
        self.assertIs(book.tell(SALE), True)
        self.assertIs(book.tell(SALE), False)
        self.assertIs(book.tell(tuple(list(SALE))), False)
        self.assertEqual(book.told(), [SALE])
        self.assertEqual(Book(LAND, [SALE, SALE, END, SALE]).told(), [END, SALE])
        self.assertEqual(Book(LAND, back=[SALE, SALE, END, SALE]).back(), [END, SALE])

    def test_in_order_as_python_puts_it(self):
        deeds = [("sale", 10, (0, 1), "bob"), ("sale", 9, (0, 1), "bob"), ("sale", 9, (0, 1), "al"),
                 ("sale", 9, (0, 2), "a"), ("end", 99, "z", (0, 1), (0, 1)), USE, LEAVE]
        book = Book(LAND, deeds, back=deeds)
        self.assertEqual(book.told(), sorted(deeds))
        self.assertEqual(book.back(), sorted(deeds))
        self.assertEqual(Book(LAND, deeds).deeds(), sorted(deeds))

    def test_deeds_unlike_in_leave_alone_are_two(self):
        book = Book(LAND, [USE])
        self.assertIs(book.tell(LEAVE), True)
        self.assertEqual(book.deeds(), [USE, LEAVE])

    def test_by_tuples_and_lists_places_and_names(self):
        for made in (tuple, list):
            book = Book(LAND, made([SALE, END]), back=made([SALE]))
            self.assertEqual((book.told(), book.back(), book.deeds()), ([END, SALE], [SALE], [END]))
        self.assertEqual(Book(land=LAND, told=[SALE], back=[END]), Book(LAND, [SALE], back=(END,)))
        self.assertIs(Book(LAND).tell(deed=SALE), True)
        self.assertIs(Book(LAND, [SALE]).take_back(deed=SALE), True)
        self.assertIs(Book(LAND, [SALE]).stands(thing=SALE), True)
        self.assertEqual(Book(LAND).merged(other=Book(LAND, [SALE])), Book(LAND, [SALE]))
        with self.assertRaises(TypeError):
            Book(LAND, [SALE], [END])


class TestTakenBack(BookCase):
    def test_what_stands_is_taken_back(self):
        book = Book(LAND, [SALE, END])
        self.assertIs(book.take_back(SALE), True)
        self.assertEqual(state(book)[:3], ([END, SALE], [SALE], [END]))

    def test_taken_back_twice(self):
        book = Book(LAND, [SALE])
        self.assertIs(book.take_back(SALE), True)
        self.assertIs(book.take_back(SALE), False)
        self.assertEqual(state(book)[:3], ([SALE], [SALE], []))

    def test_taken_back_ahead_of_being_told(self):
        book = Book(LAND)
        self.assertIs(book.take_back(SALE), False)
        self.assertEqual(state(book)[:3], ([], [SALE], []))
        self.assertIs(book.tell(SALE), False)
        self.assertEqual(state(book)[:3], ([SALE], [SALE], []))
        self.assertIs(book.tell(SALE), False)

    def test_told_again_behind_being_taken_back(self):
        book = Book(LAND, [SALE], back=[SALE])
        self.assertIs(book.tell(SALE), False)
        self.assertEqual(state(book)[:3], ([SALE], [SALE], []))

    def test_taken_back_and_never_told(self):
        book = Book(LAND, [END], back=[SALE])
        self.assertEqual(state(book)[:3], ([END], [SALE], [END]))
        self.assertIs(book.stands(SALE), False)

    def test_any_order_of_telling_and_taking_back(self):
        acts = [(Book.tell, SALE), (Book.take_back, SALE), (Book.tell, END), (Book.take_back, USE),
                (Book.tell, SALE), (Book.take_back, SALE)]
        whole = Book(LAND, [SALE, END], back=[SALE, USE])
        for order in itertools.permutations(acts):
            book = Book(LAND)
            for act, deed in order:
                stood = book.deeds()
                self.assertIs(act(book, deed), book.deeds() != stood)
            self.assertEqual(book, whole)
            self.assertEqual(state(book), state(whole))

    def test_as_two_sets_tell(self):
        chance = random.Random(8)
        for _ in range(200):
            book, told, back = Book(LAND), set(), set()
            for _ in range(20):
                deed, ahead = chance.choice(DEEDS), told - back
                if chance.random() < 0.6:
                    told.add(deed)
                    answer = book.tell(deed)
                else:
                    back.add(deed)
                    answer = book.take_back(deed)
                self.assertIs(answer, told - back != ahead)
                lists = (book.told(), book.back(), book.deeds())
                self.assertEqual(lists, (sorted(told), sorted(back), sorted(told - back)))


class TestStands(BookCase):
    def test_deeds(self):
        book = Book(LAND, [SALE, END, USE], back=[END, GRANT])
        stands = [book.stands(deed) for deed in (SALE, END, USE, GRANT, LEAVE)]
        self.assertEqual(stands, [True, False, True, False, False])
        self.assertTrue(all(type(one) is bool for one in stands))

    def test_any_thing(self):
        book = Book(LAND, DEEDS)
        for thing in ANY:
            self.assertIs(book.stands(thing), False, thing)

    def test_what_python_takes_for_alike(self):
        book = Book(LAND, [("sale", 1, (0, 1), "bob"), ("use", 0, 1, (0, 1), (1, 1), True)])
        for thing in [("sale", True, (0, 1), "bob"), ("sale", 1, (False, 1), "bob"),
                      ("sale", 1, (0, True), "bob"), ("use", 0, 1, (0, 1), (1, 1), 1),
                      ("use", False, 1, (0, 1), (1, 1), True)]:
            self.assertIs(book.stands(thing), False, thing)
        self.assertIs(book.stands(("sale", 1, (0, 1), "bob")), True)

    def test_with_a_part_put_otherwise(self):
        book = Book(LAND, DEEDS)
        for deed in DEEDS:
            for number in range(len(deed)):
                for thing in (None, [], 77, "zed", (0, 99), [list(deed)], deed):
                    put = deed[:number] + (thing,) + deed[number + 1:]
                    self.assertIs(book.stands(put), False, put)


class TestRefused(BookCase):
    def test_no_deed_is_told_or_taken_back(self):
        for thing, number in WRONG:
            field = {"number": number}
            self.assert_refused(NoDeed, field, Book(LAND).tell, thing)
            self.assert_refused(NoDeed, field, Book(LAND).take_back, thing)
            self.assert_refused(NoDeed, field, Book, LAND, [SALE, thing, END])
            self.assert_refused(NoDeed, field, Book, LAND, (thing,))
            self.assert_refused(NoDeed, field, Book, LAND, back=[SALE, thing, END])
            self.assert_refused(NoDeed, field, Book, LAND, [SALE], back=(thing,))

    def test_any_thing(self):
        for thing in ANY:
            for call in (Book(LAND).tell, Book(LAND).take_back):
                with self.assertRaises(NoDeed):
                    call(thing)

    def test_told_ones_first(self):
        for (one, number), (other, second) in itertools.product(WRONG, repeat=2):
            field = {"number": number}
            self.assert_refused(NoDeed, field, Book, LAND, [one], back=[other])
            self.assert_refused(NoDeed, field, Book, LAND, [SALE, one, other])
            self.assert_refused(NoDeed, field, Book, LAND, back=[SALE, one, other])

    def test_a_deed_of_another_land(self):
        deed = ("sale", 3, (100, 1), "bob")
        self.assertIs(Book(Land(101, "ann")).tell(deed), True)
        self.assert_refused(NoDeed, {"number": 2}, Book(LAND).tell, deed)

    def test_what_is_refused_changes_nothing(self):
        book = Book(LAND, [SALE, END], back=[END, GRANT])
        before = state(book)
        for thing, _ in WRONG:
            for call in (book.tell, book.take_back):
                with self.assertRaises(NoDeed):
                    call(thing)
                self.assertEqual(state(book), before)
        full = Book(LAND, sales(20), back=sales(20, 10))
        before = state(full)
        for call in (full.tell, full.take_back):
            self.assert_refused(TooMany, {"most": 30}, call, END)
            self.assertEqual(state(full), before)

    def test_what_is_handed_in_stays(self):
        for thing, _ in WRONG:
            before = copy.deepcopy(thing)
            for call in (Book(LAND).tell, Book(LAND).take_back):
                with self.assertRaises(NoDeed):
                    call(thing)
            self.assertEqual(thing, before)


class TestTooMany(BookCase):
    MOST = {"most": 30}

    def test_thirty_are_taken(self):
        self.assertEqual(len(Book(LAND, sales(30))), 30)
        self.assertEqual(len(Book(LAND, back=sales(30)).back()), 30)
        self.assertEqual(len(Book(LAND, sales(15), back=sales(15, 15))), 15)
        self.assertEqual(len(Book(LAND, sales(30), back=sales(30)).told()), 30)
        self.assertEqual(len(Book(LAND, sales(30) * 9)), 30)

    def test_the_thirty_first_in_the_lists(self):
        self.assert_refused(TooMany, self.MOST, Book, LAND, sales(31))
        self.assert_refused(TooMany, self.MOST, Book, LAND, back=sales(31))
        self.assert_refused(TooMany, self.MOST, Book, LAND, sales(15), back=sales(16, 15))
        self.assert_refused(TooMany, self.MOST, Book, LAND, tuple(sales(300)))

    def test_the_thirty_first_told_or_taken_back(self):
        for book in (Book(LAND, sales(30)), Book(LAND, back=sales(30)),
                     Book(LAND, sales(20), back=sales(20, 10))):
            for call in (book.tell, book.take_back):
                self.assert_refused(TooMany, self.MOST, call, END)
                for deed in sales(30):
                    call(deed)
            self.assertEqual((book.told(), book.back(), len(book)), (sales(30), sales(30), 0))

    def test_no_deed_ahead_of_too_many(self):
        for thing, number in WRONG:
            field = {"number": number}
            self.assert_refused(NoDeed, field, Book, LAND, sales(31) + [thing])
            self.assert_refused(NoDeed, field, Book, LAND, sales(31), back=[thing])
            self.assert_refused(NoDeed, field, Book(LAND, sales(30)).tell, thing)
            self.assert_refused(NoDeed, field, Book(LAND, back=sales(30)).take_back, thing)

    def test_merged(self):
        one, other = Book(LAND, sales(30)), Book(LAND, back=sales(30))
        self.assertEqual(len(one.merged(other).told()), 30)
        before = state(one)
        self.assert_refused(TooMany, self.MOST, one.merged, Book(LAND, [END]))
        self.assert_refused(TooMany, self.MOST, one.merged, Book(LAND, back=[END]))
        self.assertEqual(state(one), before)


class TestMergedAndCopy(BookCase):
    def test_merged(self):
        one = Book(LAND, [SALE, END], back=[GRANT])
        other = Book(LAND, [GRANT, END, USE], back=[SALE, LEAVE])
        for merged in (one.merged(other), other.merged(one)):
            self.assertEqual(merged.told(), [END, GRANT, SALE, USE])
            self.assertEqual(merged.back(), [GRANT, SALE, LEAVE])
            self.assertEqual(merged.deeds(), [END, USE])
            self.assertEqual(merged.land(), LAND)
        self.assertEqual(state(one)[:2], ([END, SALE], [GRANT]))
        self.assertEqual(state(other)[:2], ([END, GRANT, USE], [SALE, LEAVE]))

    def test_merged_with_itself_and_with_none(self):
        book = Book(LAND, [SALE, END], back=[GRANT])
        self.assertEqual(book.merged(book), book)
        self.assertEqual(book.merged(Book(LAND)), book)
        self.assertEqual(Book(LAND).merged(book), book)
        self.assertIsNot(book.merged(Book(LAND)), book)

    def test_merged_shares_nothing(self):
        one, other = Book(LAND, [SALE]), Book(LAND, back=[END])
        merged = one.merged(other)
        merged.tell(USE)
        merged.take_back(SALE)
        one.tell(LEAVE)
        other.take_back(LEAVE)
        self.assertEqual((one.told(), one.back()), ([SALE, LEAVE], []))
        self.assertEqual((other.told(), other.back()), ([], [END, LEAVE]))
        self.assertEqual((merged.told(), merged.back()), ([SALE, USE], [END, SALE]))

    def test_unlike(self):
        book = Book(LAND, sales(30))
        for land in (Land(101, "ann", grow=3, roads=((2, 3),)),
                     Land(100, "bob", grow=3, roads=((2, 3),)),
                     Land(100, "ann", grow=4, roads=((2, 3),)),
                     Land(100, "ann", grow=3, lapse=3, roads=((2, 3),)), Land(100, "ann", grow=3)):
            other = Book(land, [END])
            # Unlike stands ahead of TooMany.
            self.assert_refused(Unlike, None, book.merged, other)
            self.assert_refused(Unlike, None, other.merged, book)
            self.assertEqual((len(book), len(other)), (30, 1))

    def test_merged_of_a_like_land(self):
        like = Land(100, "ann", grow=3, lapse=20, roads=((2, 3),))
        self.assertEqual(Book(LAND, [SALE]).merged(Book(like, [END])), Book(LAND, [SALE, END]))

    def test_copy(self):
        book = Book(LAND, [SALE, END], back=[END, GRANT])
        other = book.copy()
        self.assertIsNot(other, book)
        self.assertEqual(other, book)
        self.assertEqual(state(other), state(book))
        self.assertEqual(other.land(), LAND)

    def test_copy_shares_nothing(self):
        book = Book(LAND, [SALE, END], back=[END])
        other = book.copy()
        book.tell(USE)
        book.take_back(SALE)
        self.assertEqual(state(other)[:3], ([END, SALE], [END], [SALE]))
        other.tell(LEAVE)
        other.take_back(LEAVE)
        self.assertEqual(state(book)[:3], ([END, SALE, USE], [END, SALE], [USE]))


class TestOwn(BookCase):
    """[2]: nothing handed in is kept, and what is told is the asker's own."""

    def test_lists_handed_in(self):
        told, back = [SALE, END], [END, GRANT]
        book = Book(LAND, told, back=back)
        self.assertEqual((told, back), ([SALE, END], [END, GRANT]))
        told.append(USE)
        back.clear()
        told[0] = None
        self.assertEqual(state(book)[:3], ([END, SALE], [END, GRANT], [SALE]))
        book.tell(LEAVE)
        self.assertEqual(told, [None, END, USE])

    def test_told_lists_are_new(self):
        book = Book(LAND, [SALE, END], back=[END, GRANT])
        before = state(book)
        for call in (book.told, book.back, book.deeds):
            told = call()
            self.assertIs(type(told), list)
            self.assertIsNot(told, call())
            told.append(None)
            told[0] = None
            self.assertEqual(state(book), before)

    def test_nothing_told_later_changes_a_list(self):
        book = Book(LAND, [SALE], back=[END])
        told, back, deeds = book.told(), book.back(), book.deeds()
        book.tell(USE)
        book.take_back(SALE)
        self.assertEqual((told, back, deeds), ([SALE], [END], [SALE]))

    def test_two_books_share_nothing(self):
        one, other = Book(LAND), Book(LAND)
        one.tell(SALE)
        one.take_back(END)
        self.assertEqual(state(other), state(Book(LAND)))
        self.assertEqual(state(Book(LAND))[:2], ([], []))

    def test_land(self):
        book = Book(LAND, [SALE])
        self.assertEqual(book.land(), LAND)
        self.assertEqual(Book(book.land()), Book(LAND))
        self.assertEqual(book.land().roads(), ((2, 3),))
        self.assertEqual((book.land().grow(), book.land().lapse()), (3, 20))


class TestSame(BookCase):
    def test_same(self):
        one, other = Book(LAND, [SALE, END], back=[GRANT]), Book(LAND, (END, SALE, END), back=(GRANT,))
        self.assertTrue(one == other)
        self.assertFalse(one != other)
        self.assertTrue(one == one)
        self.assertTrue(Book(LAND) == Book(LAND))

    def test_not_same(self):
        books = [Book(LAND), Book(LAND, [SALE]), Book(LAND, back=[SALE]), Book(LAND, [END]),
                 Book(LAND, [SALE], back=[SALE]), Book(LAND, [SALE, END], back=[END]),
                 Book(Land(100, "ann")), Book(Land(100, "ann"), [SALE]), Book(LAND, [SALE, END])]
        for one, other in itertools.permutations(books, 2):
            self.assertFalse(one == other)
            self.assertTrue(one != other)

    def test_same_by_what_is_told_later(self):
        one, other = Book(LAND), Book(LAND)
        one.tell(SALE)
        self.assertFalse(one == other)
        other.tell(SALE)
        self.assertTrue(one == other)

    def test_no_other_thing(self):
        book = Book(LAND, [SALE])
        for thing in ANY + (LAND, [SALE], (SALE,), {SALE: True}, str(book), repr(book), Book, BIG):
            self.assertIs(book == thing, False)
            self.assertIs(thing == book, False)
            self.assertIs(book != thing, True)

    def test_len_and_truth(self):
        book = Book(LAND, [SALE, END], back=[GRANT])
        self.assertEqual((len(book), bool(book)), (2, True))
        book.take_back(SALE)
        self.assertEqual((len(book), bool(book)), (1, True))
        book.take_back(END)
        self.assertEqual((len(book), bool(book)), (0, False))
        self.assertEqual((len(Book(LAND, back=[SALE])), bool(Book(LAND, back=[SALE]))), (0, False))

    def test_str(self):
        self.assertEqual(str(Book(LAND)), "")
        self.assertEqual(str(Book(LAND, [SALE])), "sale 3 4+5 bob")
        book = Book(LAND, DEEDS, back=[GRANT])
        rows = ["end 3 ann 0+5 5+7", "sale 3 4+5 bob", "use 3 8 0+5 5+7", "use 3 8 0+5 5+7 leave"]
        self.assertEqual(str(book), "\n".join(rows))
        self.assertEqual(str(book), "\n".join(map(show_deed, book.deeds())))

    def test_repr(self):
        self.assertEqual(repr(Book(LAND)), "Book(0 of 0)")
        self.assertEqual(repr(Book(LAND, DEEDS, back=[GRANT, END])), "Book(3 of 5)")
        self.assertEqual(repr(Book(LAND, [SALE], back=[GRANT, END])), "Book(1 of 1)")
        self.assertEqual(repr(Book(LAND, sales(30))), "Book(30 of 30)")

    def test_defined_in_the_class_itself(self):
        names = """tell take_back told back deeds stands land merged copy
                   __init__ __eq__ __len__ __str__ __repr__"""
        for name in names.split():
            self.assertTrue(inspect.isfunction(vars(Book).get(name)), name)


if __name__ == "__main__":
    unittest.main()
