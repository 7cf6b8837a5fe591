"""[13], [2]: sheets, a value for some pairs of cells, told in one form."""

import inspect
import itertools
import random
import unittest

from oldways.sheets import Sheet
from tests.anything import BIG, DEEP, LISTS, TUPLES
from tests.slow import form_of

FAR = 10 ** 29
VALUES = (0, 1, 7, -1, BIG, "", "ann", "a" * 4000, (), (1,), ("way", 3), (((0, 1), "a"), "b"))


def values_of(boxes):
    """Each pair's value, pair by pair."""
    values = {}
    for (x, width), (y, height), value in boxes:
        for pair in itertools.product(range(x, x + width), range(y, y + height)):
            assert pair not in values
            values[pair] = value
    return values


def split(chance, stretch):
    """A stretch, parted by chance."""
    first, many = stretch
    parts = []
    while many:
        width = chance.randint(1, many)
        parts.append((first, width))
        first, many = first + width, many - width
    return parts


def parted(chance, boxes):
    """Other boxes with the same values, in any order."""
    small = []
    for froms, overs, value in boxes:
        if chance.random() < 0.5:
            for part in split(chance, froms):
                small += [(part, over, value) for over in split(chance, overs)]
        else:
            for over in split(chance, overs):
                small += [(part, over, value) for part in split(chance, froms)]
    chance.shuffle(small)
    return small


def any_boxes(chance, cells=6, values=(1, 2, "a", (1, "a"))):
    """Some boxes, no pair in two of them."""
    boxes, seen = [], set()
    for _ in range(chance.randrange(12)):
        x, y = chance.randrange(cells), chance.randrange(cells)
        box = ((x, chance.randint(1, 3)), (y, chance.randint(1, 3)), chance.choice(values))
        pairs = set(values_of([box]))
        if not pairs & seen:
            seen |= pairs
            boxes.append(box)
    return boxes


class TestRows(unittest.TestCase):
    def test_none(self):
        sheet = Sheet([])
        self.assertEqual((sheet.rows(), len(sheet), sheet.area()), ([], 0, 0))
        self.assertIsNone(sheet.at(0, 0))

    def test_one_box(self):
        for value in VALUES + (True, False):
            sheet = Sheet([((2, 3), (4, 5), value)])
            self.assertEqual(sheet.rows(), [((2, 3), (((4, 5), value),))])
            self.assertIs(type(sheet.rows()[0][1][0][1]), type(value))

    def test_touching_with_alike_values_are_one(self):
        boxes = [((3, 2), (0, 4), "a"), ((0, 3), (2, 2), "a"), ((0, 3), (0, 2), "a")]
        self.assertEqual(Sheet(boxes).rows(), [((0, 5), (((0, 4), "a"),))])

    def test_touching_with_unlike_values_are_two(self):
        boxes = [((0, 3), (2, 2), "b"), ((0, 3), (0, 2), "a")]
        self.assertEqual(Sheet(boxes).rows(), [((0, 3), (((0, 2), "a"), ((2, 2), "b")))])
        boxes = [((3, 2), (0, 2), "b"), ((0, 3), (0, 2), "a")]
        rows = [((0, 3), (((0, 2), "a"),)), ((3, 2), (((0, 2), "b"),))]
        self.assertEqual(Sheet(boxes).rows(), rows)

    def test_apart_with_alike_values_are_two(self):
        boxes = [((0, 3), (3, 2), "a"), ((0, 3), (0, 2), "a")]
        self.assertEqual(Sheet(boxes).rows(), [((0, 3), (((0, 2), "a"), ((3, 2), "a")))])
        boxes = [((4, 2), (0, 2), "a"), ((0, 3), (0, 2), "a")]
        rows = [((0, 3), (((0, 2), "a"),)), ((4, 2), (((0, 2), "a"),))]
        self.assertEqual(Sheet(boxes).rows(), rows)

    def test_a_row_is_parted_where_its_parts_are(self):
        boxes = [((0, 9), (0, 2), "a"), ((3, 3), (5, 1), "a")]
        rows = [((0, 3), (((0, 2), "a"),)), ((3, 3), (((0, 2), "a"), ((5, 1), "a"))),
                ((6, 3), (((0, 2), "a"),))]
        self.assertEqual(Sheet(boxes).rows(), rows)

    def test_rows_with_other_cells_and_alike_values(self):
        boxes = [((0, 2), (0, 2), "a"), ((2, 2), (2, 2), "a"), ((4, 1), (2, 2), "a")]
        rows = [((0, 2), (((0, 2), "a"),)), ((2, 3), (((2, 2), "a"),))]
        self.assertEqual(Sheet(boxes).rows(), rows)

    def test_values_without_an_order_among_them(self):
        boxes = [((0, 1), (at, 1), value) for at, value in enumerate([3, "a", (1,), "b", 2])]
        for order in itertools.permutations(boxes):
            parts = tuple((overs, value) for _, overs, value in boxes)
            self.assertEqual(Sheet(list(order)).rows(), [((0, 1), parts)])

    def test_truths_that_are_no_numbers(self):
        boxes = [((0, 1), (0, 1), False), ((0, 1), (1, 1), True), ((1, 1), (0, 1), False)]
        rows = [((0, 1), (((0, 1), False), ((1, 1), True))), ((1, 1), (((0, 1), False),))]
        self.assertEqual(Sheet(boxes).rows(), rows)

    def test_as_sought_cell_by_cell_whatever_the_boxes(self):
        chance = random.Random(13)
        for _ in range(300):
            boxes = any_boxes(chance)
            form = form_of(values_of(boxes))
            for made in (boxes, parted(chance, boxes), parted(chance, boxes)):
                sheet = Sheet(made)
                self.assertEqual(sheet.rows(), form)
                self.assertEqual(sheet, Sheet(boxes))

    def test_made_of_its_own_rows(self):
        chance = random.Random(14)
        for _ in range(50):
            sheet = Sheet(any_boxes(chance))
            boxes = [(froms, overs, value) for froms, parts in sheet.rows() for overs, value in parts]
            self.assertEqual(Sheet(boxes).rows(), sheet.rows())

    def test_kinds(self):
        rows = Sheet([((2, 3), (4, 5), "a"), ((2, 3), (9, 1), "b")]).rows()
        self.assertIs(type(rows), list)
        (row,) = rows
        self.assertEqual((type(row), type(row[0]), type(row[1])), (tuple, tuple, tuple))
        for part in row[1]:
            self.assertEqual((type(part), type(part[0])), (tuple, tuple))


class TestAsked(unittest.TestCase):
    BOXES = [((2, 3), (4, 5), "a"), ((5, 1), (4, 2), "b"), ((2, 3), (9, 1), 0), ((7, 2), (0, 1), False)]

    def test_at(self):
        values = values_of(self.BOXES)
        sheet = Sheet(self.BOXES)
        for x, y in itertools.product(range(-2, 13), repeat=2):
            told = sheet.at(x, y)
            self.assertEqual(told, values.get((x, y)), (x, y))
            self.assertIs(type(told), type(values.get((x, y))))

    def test_at_any_whole_numbers(self):
        sheet = Sheet(self.BOXES)
        for x, y in [(-1, 4), (2, -1), (-BIG, -BIG), (BIG, BIG), (2, BIG), (BIG, 4)]:
            self.assertIsNone(sheet.at(x, y))
        self.assertEqual(sheet.at(x=5, y=4), "b")

    def test_area(self):
        self.assertEqual(Sheet(self.BOXES).area(), 15 + 2 + 3 + 2)
        self.assertEqual(Sheet([((0, 1), (0, 1), 0)]).area(), 1)

    def test_len(self):
        self.assertEqual(len(Sheet(self.BOXES)), 4)
        self.assertEqual(len(Sheet([((0, 9), (0, 2), "a"), ((3, 3), (5, 1), "a")])), 4)
        self.assertEqual(len(Sheet([((0, 2), (0, 2), "a"), ((2, 2), (0, 2), "a")])), 1)
        self.assertTrue(Sheet(self.BOXES))
        self.assertFalse(Sheet([]))

    def test_as_sought_cell_by_cell(self):
        chance = random.Random(15)
        for _ in range(100):
            boxes = any_boxes(chance)
            values, sheet = values_of(boxes), Sheet(boxes)
            self.assertEqual(sheet.area(), len(values))
            self.assertEqual(len(sheet), sum(len(parts) for _, parts in form_of(values)))
            for x, y in itertools.product(range(10), repeat=2):
                self.assertEqual(sheet.at(x, y), values.get((x, y)))


class TestFar(unittest.TestCase):
    def test_far_cells(self):
        boxes = [((FAR, 8 * FAR), (0, 10 * FAR), "a"), ((0, FAR), (5 * FAR, FAR), "b"),
                 ((9 * FAR, FAR), (0, 10 * FAR), "a")]
        sheet = Sheet(boxes)
        rows = [((0, FAR), (((5 * FAR, FAR), "b"),)), ((FAR, 9 * FAR), (((0, 10 * FAR), "a"),))]
        self.assertEqual(sheet.rows(), rows)
        self.assertEqual(sheet.area(), FAR * FAR + 9 * FAR * 10 * FAR)
        self.assertEqual(len(sheet), 2)
        asked = [((FAR - 1, 5 * FAR), "b"), ((FAR - 1, 6 * FAR - 1), "b"), ((FAR - 1, 6 * FAR), None),
                 ((FAR - 1, 5 * FAR - 1), None), ((FAR, 0), "a"), ((10 * FAR - 1, 10 * FAR - 1), "a"),
                 ((10 * FAR, 0), None), ((0, 5 * FAR), "b")]
        for (x, y), value in asked:
            self.assertEqual(sheet.at(x, y), value)

    def test_sixty_figures(self):
        sheet = Sheet([((BIG, BIG), (BIG, BIG), "a"), ((0, BIG), (BIG, BIG), "a")])
        self.assertEqual(sheet.rows(), [((0, 2 * BIG), (((BIG, BIG), "a"),))])
        self.assertEqual(sheet.at(2 * BIG - 1, BIG), "a")

    def test_three_hundred_boxes(self):
        boxes = [((at, FAR + 300 - at), (at * FAR, FAR), at // 2) for at in range(300)]
        sheet = Sheet(boxes)
        self.assertEqual(sheet.area(), sum(FAR * (FAR + 300 - at) for at in range(300)))
        self.assertEqual(len(sheet.rows()), 300)
        self.assertEqual(sheet.at(150, 150 * FAR), 75)
        self.assertIsNone(sheet.at(149, 150 * FAR))
        flat = Sheet([((at, 1), (0, FAR), "a") for at in range(300)])
        self.assertEqual(flat.rows(), [((0, 300), (((0, FAR), "a"),))])


class TestSame(unittest.TestCase):
    def test_same(self):
        one = Sheet([((0, 4), (0, 2), "a"), ((0, 4), (2, 2), "a")])
        other = Sheet([((2, 2), (0, 4), "a"), ((0, 2), (0, 4), "a")])
        self.assertTrue(one == other)
        self.assertFalse(one != other)
        self.assertTrue(Sheet([]) == Sheet([]))
        self.assertTrue(one == one)

    def test_not_same(self):
        boxes = [[], [((0, 4), (0, 2), "a")], [((0, 4), (0, 2), "b")], [((0, 2), (0, 4), "a")],
                 [((0, 4), (0, 3), "a")], [((1, 4), (0, 2), "a")], [((0, 4), (1, 2), "a")],
                 [((0, 4), (0, 2), ("a",))], [((0, 4), (0, 2), 1)], [((0, 5), (0, 2), "a")]]
        for one, other in itertools.permutations(boxes, 2):
            self.assertFalse(Sheet(one) == Sheet(other))
            self.assertTrue(Sheet(one) != Sheet(other))

    def test_no_other_thing(self):
        sheet = Sheet([((0, 4), (0, 2), "a")])
        things = (None, True, 0, 1, "a", sheet.rows(), tuple(sheet.rows()), Sheet) + TUPLES + DEEP
        for thing in things + tuple(LISTS):
            self.assertIs(sheet == thing, False)
            self.assertIs(thing == sheet, False)
            self.assertIs(sheet != thing, True)
        self.assertFalse(Sheet([]) == [])


class TestOwn(unittest.TestCase):
    def test_the_list_handed_in_stays(self):
        boxes = [((5, 1), (4, 2), "b"), ((2, 3), (4, 5), "a")]
        before = list(boxes)
        sheet = Sheet(boxes)
        told = (sheet.rows(), sheet.at(2, 4), sheet.area(), len(sheet))
        self.assertEqual(boxes, before)
        boxes.append(((0, 1), (0, 1), "c"))
        boxes[0] = None
        self.assertEqual((sheet.rows(), sheet.at(2, 4), sheet.area(), len(sheet)), told)
        self.assertIsNone(sheet.at(0, 0))

    def test_told_lists_are_the_askers_own(self):
        sheet = Sheet([((5, 1), (4, 2), "b"), ((2, 3), (4, 5), "a")])
        rows = sheet.rows()
        before = list(rows)
        rows.append(None)
        rows[0] = None
        self.assertEqual(sheet.rows(), before)
        self.assertIsNot(sheet.rows(), sheet.rows())
        self.assertEqual((sheet.at(2, 4), len(sheet)), ("a", 2))

    def test_two_sheets_share_nothing(self):
        boxes = [((5, 1), (4, 2), "b")]
        one, other = Sheet(boxes), Sheet(boxes)
        one.rows().clear()
        self.assertEqual(other.rows(), [((5, 1), (((4, 2), "b"),))])

    def test_by_name_and_defined_in_the_class_itself(self):
        self.assertEqual(Sheet(rows=[]), Sheet([]))
        for name in "__init__ rows at area __eq__ __len__".split():
            self.assertTrue(inspect.isfunction(vars(Sheet).get(name)), name)


if __name__ == "__main__":
    unittest.main()
