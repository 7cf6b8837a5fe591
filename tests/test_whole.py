"""[1], [2], [3] over the whole program: what is handed in, what is told, and on what it hangs."""

import copy
import itertools
import random
import unittest

from oldways.book import Book
from oldways.desk import Desk
from oldways.errors import NoCell, NoDay, NoHand, TooMany, Unlike
from oldways.freed import free_by, freed, is_freed
from oldways.hands import chain, hand_at, held, holdings
from oldways.kept import barred, kept
from oldways.land import Land
from oldways.looker import is_title, is_want
from oldways.maps import all_spans, changes, counts, parted, quiet, stands, ways
from oldways.pairs import next_change, seen, spans, stand
from oldways.roads import open_cells, opens, opens_by_use
from oldways.sheets import Sheet
from oldways.texts import show_deed
from oldways.titles import needful, title, want
from tests.anything import BIG
from tests.asked import OF_BOOK, OF_CELL, OF_DAY, OF_PAIR, answers, spoil
from tests.slow import any_deed, any_stretch

LAST = 10 ** 30
MOST = 10 ** 12


def roaded_book(chance, many=12, cells=4, days=16, grow=None):
    """A small book over land with a road."""
    land = Land(cells, "ann", grow=grow or chance.randint(1, 4), lapse=chance.randint(1, 4), roads=((cells - 1, 1),))
    told = [("sale", 0, (1, 2), "bob")]
    told += [any_deed(chance, cells, days) for _ in range(many)]
    told += [("use", day, day + 5, (0, cells), (0, cells), False) for day in (1, 9)]
    return Book(land, told, back=told[1:chance.randrange(1, 4)])


class TestOrder(unittest.TestCase):
    """[3]: nothing hangs on the order of telling."""

    def test_told_in_another_order_twice_and_by_parts(self):
        chance = random.Random(31)
        for _ in range(8):
            book = roaded_book(chance)
            wanted = answers(book)
            acts = [("tell", deed) for deed in book.told() * 2] + [("take_back", deed) for deed in book.back()]
            chance.shuffle(acts)
            other = Book(book.land())
            for at, (act, deed) in enumerate(acts):
                getattr(other, act)(deed)
                if at % 5 == 0:
                    answers(other, days=(3,), cells=(0, 1))
            self.assertEqual(answers(other), wanted)

    def test_books_merged_and_deeds_taken_back(self):
        chance = random.Random(32)
        for _ in range(8):
            book = roaded_book(chance, 8)
            wanted = answers(book)
            deeds = book.told()
            chance.shuffle(deeds)
            more = [deed for deed in roaded_book(chance, 4).told() if not book.stands(deed)]
            one = Book(book.land(), deeds[:5] + more[:2], back=more[2:])
            other = Book(book.land(), deeds[5:] + more[2:], back=book.back() + more[:2])
            for merged in (one.merged(other), other.merged(one), one.merged(other).merged(one)):
                self.assertEqual(answers(merged), wanted)
            self.assertEqual(answers(Book(book.land(), book.deeds())), wanted)
            self.assertEqual(answers(book.copy()), wanted)

    def test_by_a_desk(self):
        chance = random.Random(33)
        for _ in range(5):
            book = roaded_book(chance)
            land = book.land()
            desk = Desk(4, "ann", grow=land.grow(), lapse=land.lapse(), roads=land.roads())
            rows = [f"told {show_deed(deed)}" for deed in book.told()] + [f"back {show_deed(deed)}" for deed in book.back()]
            chance.shuffle(rows)
            for row in rows:
                desk.say(row)
            self.assertEqual(answers(desk.book()), answers(book))

    def test_what_is_done_elsewhere(self):
        chance = random.Random(34)
        for _ in range(20):
            book = roaded_book(chance)
            before = [spans(book, x, y) for x, y in itertools.product(range(2), repeat=2)]
            for _ in range(8):
                deed = any_deed(chance, 2, 16)
                parts = [(part[0] + 2, part[1]) if isinstance(part, tuple) else part for part in deed]
                book.tell(tuple(parts))
            self.assertEqual([spans(book, x, y) for x, y in itertools.product(range(2), repeat=2)], before)


class TestWide(unittest.TestCase):
    """[3]: the same land with each cell a block of many cells, and the same deeds with each day many days long."""

    def wide(self, book, many):
        """A book of land with blocks in the cells' places."""
        land = book.land()
        roads = tuple((first * many, wide * many) for first, wide in land.roads())
        deeds = [tuple((part[0] * many, part[1] * many) if isinstance(part, tuple) else part for part in deed)
                 for deed in book.deeds()]
        return Book(Land(land.cells() * many, land.hand(), grow=land.grow(), lapse=land.lapse(), roads=roads), deeds)

    def test_blocks(self):
        chance = random.Random(35)
        many = 10 ** 29
        for _ in range(12):
            book = roaded_book(chance)
            far = self.wide(book, many)
            self.assertEqual(quiet(far), quiet(book))
            for day in range(0, 20, 2):
                self.assertEqual({hands: number * many * many for hands, number in counts(book, day).items()}, counts(far, day))
                self.assertEqual([(a * many, b * many) for a, b in open_cells(book, day)], open_cells(far, day))
                self.assertEqual([((a * many, b * many), hand) for (a, b), hand in holdings(book, day)], holdings(far, day))
                self.assertEqual(len(freed(far, day)[0]), len(freed(book, day)[0]))
                hand = hand_at(book, 1, day)
                self.assertEqual(free_by(far, hand, day), free_by(book, hand, day))
                for call in (kept, barred):
                    froms, overs = any_stretch(chance, 4), any_stretch(chance, 4)
                    wide = [(first * many, cells * many) for first, cells in (froms, overs)]
                    self.assertEqual(call(far, *wide, day, until=day + 12), call(book, froms, overs, day, until=day + 12))
                for x, y in itertools.product(range(4), repeat=2):
                    far_x, far_y = x * many + chance.randrange(many), y * many + chance.randrange(many)
                    self.assertEqual(stand(far, far_x, far_y, day), stand(book, x, y, day))
                    self.assertEqual(want(far, far_x, far_y, day), want(book, x, y, day))
                    self.assertEqual(len(title(far, far_x, far_y, day) or ()), len(title(book, x, y, day) or ()))
                    self.assertEqual(opens(far, far_x, since=day), opens(book, x, since=day))
                    self.assertEqual(opens_by_use(far, far_x, since=day), opens_by_use(book, x, since=day))

    def long(self, book, many):
        """A book with each day many days long: sales at a day's begin, grants and ends at its end."""
        land = book.land()
        deeds = []
        for deed in book.deeds():
            first, last = deed[1] * many, (deed[1] + 1) * many - 1
            if deed[0] == "use":
                deeds.append(("use", first, (deed[2] + 1) * many - 1) + deed[3:])
            else:
                deeds.append((deed[0], first if deed[0] == "sale" else last) + deed[2:])
        return Book(Land(land.cells(), land.hand(), grow=land.grow() * many, lapse=land.lapse() * many, roads=land.roads()), deeds)

    def test_days(self):
        chance = random.Random(36)
        many = 10 ** 11
        for _ in range(12):
            book = roaded_book(chance)
            far = self.long(book, many)
            for day in range(20):
                end = (day + 1) * many - 1
                for x, y in itertools.product(range(4), repeat=2):
                    word, days = stand(book, x, y, day)
                    self.assertEqual(stand(far, x, y, end), (word, days * many))
                    self.assertEqual(len(title(far, x, y, end) or ()), len(title(book, x, y, day) or ()))
                self.assertEqual(ways(far, end), ways(book, day))
                self.assertEqual(counts(far, end), counts(book, day))
                self.assertEqual(open_cells(far, end), open_cells(book, day))
                self.assertEqual(freed(far, end), freed(book, day))
                hand = hand_at(book, 1, day)
                waited = free_by(book, hand, day) - day
                self.assertEqual(free_by(far, hand, end), end + waited * many)
                for x in range(4):
                    later = opens_by_use(book, x, since=day)
                    self.assertEqual(opens_by_use(far, x, since=end), later and end + (later - day) * many if later else later or end)


class TestOwn(unittest.TestCase):
    """[2]: what is told is the asker's own, what is handed in stays, what is asked changes no answer."""

    def test_told_lists_and_dicts_are_the_askers_own(self):
        chance = random.Random(37)
        for _ in range(6):
            book = roaded_book(chance)
            wanted = answers(book)
            told = answers(book)
            before = copy.deepcopy(told)
            spoil(told)
            self.assertEqual(answers(book), before)
            self.assertEqual(answers(book), wanted)

    def test_nothing_told_later_changes_an_answer_that_was_told(self):
        chance = random.Random(38)
        for _ in range(6):
            book = roaded_book(chance, 8)
            told = answers(book)
            sheets = (ways(book, 9), stands(book, 9), all_spans(book), changes(Book(book.land()), book))
            before = (copy.deepcopy(told), [sheet.rows() for sheet in sheets])
            for _ in range(6):
                book.tell(any_deed(chance, 4, 16))
                answers(book, days=(9,), cells=(0, 1))
            for deed in book.deeds()[::2]:
                book.take_back(deed)
            answers(book)
            self.assertEqual((told, [sheet.rows() for sheet in sheets]), before)

    def test_what_is_asked_changes_no_answer_behind_a_telling(self):
        chance = random.Random(39)
        for _ in range(6):
            asked, unasked = roaded_book(chance, 8), None
            unasked = asked.copy()
            for _ in range(8):
                answers(asked, days=(0, 9), cells=(0, 1))
                deed = any_deed(chance, 4, 16)
                for book in (asked, unasked):
                    book.tell(deed)
                if chance.random() < 0.4:
                    back = chance.choice(asked.told())
                    answers(asked, days=(5,), cells=(0, 2))
                    for book in (asked, unasked):
                        book.take_back(back)
            self.assertEqual(asked, unasked)
            self.assertEqual(answers(asked), answers(unasked))

    def test_two_books_share_nothing(self):
        chance = random.Random(40)
        for _ in range(4):
            one = roaded_book(chance, 8)
            answers(one)
            others = [one.copy(), one.merged(one), Book(one.land(), one.told(), back=one.back())]
            wanted = answers(one)
            for other in others:
                answers(other, days=(2,), cells=(0, 1))
                for _ in range(5):
                    other.tell(any_deed(chance, 4, 16))
                self.assertEqual(answers(one), wanted)
                self.assertEqual(answers(other), answers(Book(other.land(), other.deeds())))

    def test_the_same_question_has_the_same_answer(self):
        chance = random.Random(41)
        for _ in range(4):
            book = roaded_book(chance)
            self.assertEqual(answers(book), answers(book))
            self.assertEqual(repr(answers(book)), repr(answers(book.copy())))

    def test_what_is_handed_in_stays(self):
        chance = random.Random(42)
        book = roaded_book(chance)
        told, back = list(book.told()), list(book.back())
        for day in range(0, 20, 3):
            deals = freed(book, day)
            things = [deals, title(book, 0, 1, day), want(book, 0, 1, day), [[], ()], ([None], []), [None]]
            before = copy.deepcopy(things)
            for thing in things:
                is_freed(book, day, thing)
                is_title(book, 0, 1, day, thing)
                is_want(book, 0, 1, day, thing)
            self.assertEqual(things, before)
        self.assertEqual((book.told(), book.back()), (told, back))

    def test_lists_handed_in_are_not_kept(self):
        told = [("sale", 0, (1, 2), "bob"), ("grant", 1, "bob", (0, 1), (1, 1))]
        book = Book(Land(4, "ann"), told)
        wanted = answers(book)
        told.clear()
        told.append(None)
        self.assertEqual(answers(book), wanted)


class TestArguments(unittest.TestCase):
    """[2]: by their places, or by their names, in any order; those behind a * by their names alone."""

    BOOK = Book(Land(6, "ann", grow=2, lapse=5, roads=((5, 1),)),
                [("sale", 0, (2, 2), "bob"), ("grant", 1, "bob", (0, 2), (2, 2)), ("use", 2, 4, (2, 2), (0, 6), False)])
    # Each call with its arguments by name, in order, and those behind a *.
    CALLS = [
        (hand_at, {"cell": 2, "day": 3}, {}), (holdings, {"day": 3}, {}), (held, {"hand": "bob", "day": 3}, {}), (chain, {"cell": 2}, {}),
        (seen, {"x": 0, "y": 2, "day": 3}, {}), (stand, {"x": 0, "y": 2, "day": 3}, {}), (spans, {"x": 0, "y": 2}, {}),
        (next_change, {"x": 0, "y": 2, "day": 3}, {}), (ways, {"day": 3}, {}), (stands, {"day": 3}, {}), (all_spans, {}, {}),
        (counts, {"day": 3}, {}), (quiet, {}, {}), (title, {"x": 0, "y": 2, "day": 3}, {}), (needful, {"x": 0, "y": 2, "day": 3}, {}),
        (want, {"x": 2, "y": 0, "day": 2}, {}), (is_title, {"x": 0, "y": 2, "day": 3, "thing": [("grant", 1, "bob", (0, 2), (2, 2))]}, {}),
        (is_want, {"x": 2, "y": 0, "day": 2, "thing": (-1, [(0, 1)])}, {}), (freed, {"day": 3}, {}),
        (is_freed, {"day": 3, "thing": ([("ann", "bob")], [(0, 2)])}, {}), (free_by, {"hand": "bob", "day": 3}, {}),
        (kept, {"froms": (0, 6), "overs": (0, 6), "day": 3}, {"until": 9}), (barred, {"froms": (2, 2), "overs": (0, 2), "day": 0}, {"until": 9}),
        (open_cells, {"day": 3}, {}), (opens, {"cell": 0}, {"since": 0}), (opens_by_use, {"cell": 0}, {"since": 0}),
    ]

    def test_by_places_and_by_names(self):
        for call, places, names in self.CALLS:
            told = call(self.BOOK, *places.values(), **names)
            self.assertTrue(told or told == 0, call.__name__)
            named = {"book": self.BOOK, **places, **names}
            for order in itertools.islice(itertools.permutations(named), 40):
                self.assertEqual(call(**{name: named[name] for name in order}), told, call.__name__)
            if names:
                with self.assertRaises(TypeError):
                    call(self.BOOK, *places.values(), *names.values())
                with self.assertRaises(TypeError):
                    call(self.BOOK, *places.values())

    def test_of_two_books(self):
        other = Book(self.BOOK.land())
        self.assertEqual(changes(other=other, one=self.BOOK), changes(self.BOOK, other))
        self.assertEqual(parted(other=other, one=self.BOOK), (1, 0, 2))


class TestRefusals(unittest.TestCase):
    """[2]: of two refusals the one that stands first in the brackets; what is refused changes nothing."""

    BOOK = TestArguments.BOOK

    def test_which_of_two(self):
        book = self.BOOK
        calls = [
            (NoCell, lambda: hand_at(book, 6, -1)), (NoCell, lambda: seen(book, 6, 7, -1)), (NoCell, lambda: stand(book, 0, 6, None)),
            (NoCell, lambda: next_change(book, 6, 0, True)), (NoCell, lambda: title(book, 6, 0, -1)), (NoCell, lambda: needful(book, 0, 6, -1)),
            (NoCell, lambda: want(book, 0, 6, -1)), (NoCell, lambda: is_title(book, 0, 6, -1, None)),
            (NoCell, lambda: is_want(book, 6, 0, -1, None)), (NoDay, lambda: free_by(book, "zed", -1)),
            (NoHand, lambda: free_by(book, "zed", 1)), (NoCell, lambda: opens(book, 6, since=-1)),
            (NoCell, lambda: opens_by_use(book, 6, since=-1)), (NoDay, lambda: is_freed(book, -1, None)),
            (NoDay, lambda: kept(book, (0, 6), (0, 6), -1, until=None)), (NoDay, lambda: barred(book, (0, 6), (0, 6), 0, until=-1)),
        ]
        wanted = answers(book, cells=(0, 1))
        for error, call in calls:
            with self.assertRaises(error) as caught:
                call()
            self.assertIs(type(caught.exception), error)
        self.assertEqual(answers(book, cells=(0, 1)), wanted)

    def test_unlike_ahead_of_too_many(self):
        deeds = [("sale", day, (0, 1), "bob") for day in range(30)]
        one = Book(Land(6, "ann"), deeds)
        for call in (changes, parted):
            with self.assertRaises(Unlike):
                call(one, Book(Land(7, "ann")))
        with self.assertRaises(TooMany):
            one.merged(Book(Land(6, "ann"), [("sale", 30, (0, 1), "bob")]))


class TestFar(unittest.TestCase):
    """Thirty deeds over land of 10 ** 30 cells, on days to 10 ** 30, asked for each thing."""

    def far_book(self, chance, grow, lapse, sales):
        """A book of thirty deeds whose stretches and days lie over many others, no two with the same bounds."""
        eighth = LAST // 8
        roads = tuple((at * eighth, 5) for at in range(8))
        land = Land(LAST, "ann", grow=grow, lapse=lapse, roads=roads)
        told = []
        for at in range(30):
            deed = any_deed(chance, LAST, LAST)
            while (deed[0] == "sale") != (at < sales):
                deed = any_deed(chance, LAST, LAST)
            if deed[0] == "use":
                deed = ("use", deed[1], min(LAST, deed[1] + chance.randrange(10 ** 29)), *deed[3:])
            told.append(deed)
        return Book(land, told)

    def test_each_thing(self):
        chance = random.Random(43)
        for grow, lapse, sales in [(1, 1, 3), (MOST, MOST, 3), (20, MOST, 12), (3, 4, 1), (7, 7, 25)]:
            book = self.far_book(chance, grow, lapse, sales)
            days = [0, chance.randrange(LAST), LAST, BIG]
            days += [deed[1] for deed in book.deeds() if deed[0] != "sale"][:2]
            cells = [chance.randrange(LAST) for _ in range(2)]
            told = answers(book, days, cells)
            for name, *asked in told:
                if name in ("is_title", "is_want"):
                    word, _ = told[("stand", *asked)]
                    self.assertIs(told[(name, *asked)], word == ("way" if name == "is_title" else "none"))
                if name == "is_freed":
                    self.assertIs(told[(name, *asked)], True)
            for day in days:
                for call in (kept, barred):
                    rows = call(book, (0, LAST), (0, LAST), day, until=day + 10 ** 29)
                    self.assertTrue(rows is None or type(rows) is list)

    def test_all_is_asked(self):
        told = answers(TestArguments.BOOK)
        self.assertEqual({key[0] for key in told}, {*OF_BOOK, *OF_DAY, *OF_CELL, *OF_PAIR})
        self.assertIs(type(ways(TestArguments.BOOK, 3)), Sheet)


if __name__ == "__main__":
    unittest.main()
