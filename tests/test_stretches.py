"""[4], [2]: stretches, their least form, both and less."""

import copy
import itertools
import unittest

from oldways.stretches import both, is_stretch, least, less
from tests.anything import BIG, DEEP, NOT_TUPLES, NOT_WHOLE, TUPLES, WIDE, nested

SMALL = [(first, many) for first in range(4) for many in range(1, 4)]
LISTS = [list(row) for long in range(3) for row in itertools.product(SMALL, repeat=long)]
CALLS = [
    ("both", both, lambda one, other: one & other),
    ("less", less, lambda one, other: one - other),
]


def cells_of(stretches):
    """The cells of small stretches, one by one."""
    return {cell for first, many in stretches for cell in range(first, first + many)}


def form_of(cells):
    """The least form of some cells, sought cell by cell."""
    form = []
    for cell in sorted(cells):
        if cell - 1 in cells:
            first, many = form.pop()
            form.append((first, many + 1))
        else:
            form.append((cell, 1))
    return form


class TestIsStretch(unittest.TestCase):
    def test_stretches(self):
        for thing in [(0, 1), (1, 1), (0, 2), (7, 300), (BIG, 1), (0, BIG), (BIG, BIG)]:
            self.assertIs(is_stretch(thing), True, thing)

    def test_first_below_0(self):
        for thing in [(-1, 1), (-BIG, 1), (-1, 0)]:
            self.assertIs(is_stretch(thing), False, thing)

    def test_many_below_1(self):
        for thing in [(0, 0), (5, 0), (0, -1), (5, -BIG)]:
            self.assertIs(is_stretch(thing), False, thing)

    def test_no_number_in_its_place(self):
        for thing in NOT_WHOLE:
            self.assertIs(is_stretch((thing, 1)), False, thing)
            self.assertIs(is_stretch((0, thing)), False, thing)
            self.assertIs(is_stretch((thing, thing)), False, thing)

    def test_truths(self):
        for thing in [(True, 1), (False, 1), (0, True), (True, True), (0, False)]:
            self.assertIs(is_stretch(thing), False, thing)

    def test_a_part_more_or_fewer(self):
        for thing in [(), (0,), (1,), (0, 1, 1), (0, 1, None), (0, 1, 2, 3)]:
            self.assertIs(is_stretch(thing), False, thing)

    def test_a_list_in_the_tuples_place(self):
        for thing in [[0, 1], [(0, 1)], [[0, 1]], ([0, 1],), ((0, 1),)]:
            self.assertIs(is_stretch(thing), False, thing)

    def test_any_other_thing(self):
        for thing in NOT_TUPLES + TUPLES + DEEP + WIDE:
            self.assertIs(is_stretch(thing), False, thing)

    def test_many_things_within_one_another(self):
        for thing in [(nested(9), 1), (0, nested(9, list)), ((0, 1), (0, 1)), [nested(9)]]:
            self.assertIs(is_stretch(thing), False, thing)

    def test_by_name_and_unchanged(self):
        self.assertIs(is_stretch(thing=(3, 4)), True)
        thing = [[0, 1], (2, [3])]
        self.assertIs(is_stretch(thing), False)
        self.assertEqual(thing, [[0, 1], (2, [3])])


class TestLeast(unittest.TestCase):
    def test_none(self):
        self.assertEqual(least([]), [])

    def test_one(self):
        self.assertEqual(least([(3, 4)]), [(3, 4)])

    def test_touching_are_one(self):
        self.assertEqual(least([(0, 3), (3, 2)]), [(0, 5)])
        self.assertEqual(least([(3, 2), (0, 3), (5, 1)]), [(0, 6)])

    def test_apart_by_one_cell_are_two(self):
        self.assertEqual(least([(4, 2), (0, 3)]), [(0, 3), (4, 2)])

    def test_over_one_another(self):
        self.assertEqual(least([(0, 5), (3, 4)]), [(0, 7)])
        self.assertEqual(least([(0, 9), (3, 2), (4, 1)]), [(0, 9)])
        self.assertEqual(least([(0, 9), (3, 2), (8, 3)]), [(0, 11)])

    def test_alike(self):
        self.assertEqual(least([(2, 3), (2, 3), (2, 1), (2, 3)]), [(2, 3)])

    def test_in_any_order(self):
        rows = [(9, 1), (0, 2), (2, 3), (7, 1)]
        for order in itertools.permutations(rows):
            self.assertEqual(least(list(order)), [(0, 5), (7, 1), (9, 1)])

    def test_sixty_figures(self):
        far = 10 ** 59
        self.assertEqual(least([(far, far), (0, far)]), [(0, 2 * far)])
        self.assertEqual(least([(far + 1, far), (0, far)]), [(0, far), (far + 1, far)])
        self.assertEqual(least([(BIG, BIG), (0, BIG), (5, 7)]), [(0, 2 * BIG)])

    def test_as_sought_cell_by_cell(self):
        for row in LISTS + [list(row) for row in itertools.product(SMALL, repeat=3)]:
            self.assertEqual(least(row), form_of(cells_of(row)), row)

    def test_told_again_stays(self):
        rows = least([(9, 1), (0, 2), (2, 3)])
        self.assertEqual(least(rows), rows)

    def test_many_stretches(self):
        rows = [(2 * at, 1) for at in range(3000)]
        self.assertEqual(least(rows[::-1]), rows)
        self.assertEqual(least(rows + [(1, 5998)]), [(0, 5999)])

    def test_kinds_by_name(self):
        told = least(stretches=[(5, 1), (0, 1)])
        self.assertIs(type(told), list)
        self.assertEqual([type(row) for row in told], [tuple, tuple])
        self.assertTrue(all(is_stretch(row) for row in told))


class TestBothAndLess(unittest.TestCase):
    def test_as_sought_cell_by_cell(self):
        for name, call, sought in CALLS:
            for one, other in itertools.product(LISTS, repeat=2):
                form = form_of(sought(cells_of(one), cells_of(other)))
                self.assertEqual(call(one, other), form, (name, one, other))

    def test_both_none(self):
        self.assertEqual(both([], []), [])
        self.assertEqual(both([(0, 3)], []), [])
        self.assertEqual(both([], [(0, 3)]), [])

    def test_both(self):
        self.assertEqual(both([(0, 5)], [(3, 5)]), [(3, 2)])
        self.assertEqual(both([(0, 3)], [(3, 3)]), [])
        self.assertEqual(both([(0, 9)], [(7, 1), (2, 2), (4, 1)]), [(2, 3), (7, 1)])
        self.assertEqual(both([(4, 2), (0, 4)], [(2, 2), (4, 9)]), [(2, 4)])
        self.assertEqual(both([(2, 3)], [(2, 3), (2, 3)]), [(2, 3)])

    def test_less_none(self):
        self.assertEqual(less([], []), [])
        self.assertEqual(less([], [(0, 3)]), [])
        self.assertEqual(less([(3, 1), (0, 3)], []), [(0, 4)])

    def test_less(self):
        self.assertEqual(less([(0, 5)], [(3, 5)]), [(0, 3)])
        self.assertEqual(less([(3, 5)], [(0, 5)]), [(5, 3)])
        self.assertEqual(less([(0, 9)], [(7, 1), (2, 2), (4, 1)]), [(0, 2), (5, 2), (8, 1)])
        self.assertEqual(less([(0, 3)], [(3, 3)]), [(0, 3)])
        self.assertEqual(less([(2, 3)], [(2, 3)]), [])
        self.assertEqual(less([(2, 3)], [(0, 99)]), [])

    def test_less_is_not_less_the_other_way(self):
        self.assertEqual(less([(0, 4)], [(2, 4)]), [(0, 2)])
        self.assertEqual(less([(2, 4)], [(0, 4)]), [(4, 2)])

    def test_sixty_figures(self):
        far = 10 ** 59
        self.assertEqual(both([(0, BIG)], [(far, BIG)]), [(far, BIG - far)])
        self.assertEqual(less([(0, BIG)], [(far, 1)]), [(0, far), (far + 1, BIG - far - 1)])
        self.assertEqual(less([(BIG, BIG)], [(0, BIG)]), [(BIG, BIG)])
        self.assertEqual(both([(BIG, BIG)], [(0, BIG)]), [])

    def test_many_stretches(self):
        even = [(2 * at, 1) for at in range(3000)]
        odd = [(2 * at + 1, 1) for at in range(3000)]
        self.assertEqual(both(even, odd), [])
        self.assertEqual(less(even, odd), even)
        self.assertEqual(less([(0, 6000)], even), odd)
        self.assertEqual(both([(0, 6000)], odd[::-1]), odd)

    def test_kinds_by_name(self):
        for _, call, _ in CALLS:
            told = call(one=[(0, 9)], other=[(2, 3)])
            self.assertEqual(told, call([(0, 9)], [(2, 3)]))
            self.assertIs(type(told), list)
            self.assertTrue(all(is_stretch(row) for row in told))
        self.assertEqual(less(other=[(0, 9)], one=[(2, 9)]), [(9, 2)])


class TestOwn(unittest.TestCase):
    """[2]: what is handed in stays, what is told is the asker's own."""

    ONE = [(9, 2), (0, 3), (3, 1), (0, 3)]
    OTHER = [(10, 9), (1, 1)]

    def test_what_is_handed_in_stays(self):
        one, other = copy.deepcopy(self.ONE), copy.deepcopy(self.OTHER)
        least(one)
        for _, call, _ in CALLS:
            call(one, other)
        self.assertEqual((one, other), (self.ONE, self.OTHER))

    def test_what_is_told_is_a_new_list(self):
        for rows in ([], [(0, 3)], [(0, 3), (5, 1)]):
            before = list(rows)
            for call in (least, lambda one: both(one, one), lambda one: less(one, [])):
                told = call(rows)
                self.assertIsNot(told, rows)
                told.append((99, 1))
                self.assertEqual(rows, before)
                self.assertEqual(call(rows), before)

    def test_the_one_may_be_the_other(self):
        one = list(self.ONE)
        self.assertEqual(both(one, one), [(0, 4), (9, 2)])
        self.assertEqual(less(one, one), [])
        self.assertEqual(one, self.ONE)


if __name__ == "__main__":
    unittest.main()
