"""The interface's oldways/errors.py: what each is made of and stands under."""

import copy
import unittest

from oldways import errors
from tests.anything import BIG, nested

# Name, what it stands straight under, its field.
ONES = [
    ("NoLand", ValueError, "part"),
    ("NoDeed", ValueError, "number"),
    ("NoText", ValueError, "place"),
    ("NoCell", IndexError, "cell"),
    ("NoDay", LookupError, "day"),
    ("NoHand", KeyError, "name"),
    ("TooMany", OverflowError, "most"),
    ("Unlike", RuntimeError, None),
]
WITH_FIELD = [row for row in ONES if row[2] is not None]
OF_ANY_THING = [("NoCell", "cell"), ("NoDay", "day"), ("NoHand", "name")]


class TestErrors(unittest.TestCase):
    def test_there_are_just_these(self):
        own = [name for name, thing in vars(errors).items() if isinstance(thing, type)]
        self.assertEqual(sorted(own), sorted(name for name, _, _ in ONES))

    def test_each_stands_straight_under_its_class(self):
        for name, base, _ in ONES:
            self.assertEqual(getattr(errors, name).__bases__, (base,), name)

    def test_none_stands_under_another_one(self):
        for name, _, _ in ONES:
            for other, _, _ in ONES:
                if name != other:
                    under = issubclass(getattr(errors, name), getattr(errors, other))
                    self.assertFalse(under, (name, other))

    def test_field_by_place_and_by_name(self):
        for name, _, field in WITH_FIELD:
            made = getattr(errors, name)
            for worth in ("cells", 0, 7, BIG):
                self.assertEqual(getattr(made(worth), field), worth)
                self.assertEqual(getattr(made(**{field: worth}), field), worth)

    def test_made_of_its_one_field(self):
        for name, _, field in WITH_FIELD:
            made = getattr(errors, name)
            with self.assertRaises(TypeError):
                made()
            with self.assertRaises(TypeError):
                made(1, 2)
            self.assertEqual(list(vars(made(1))), [field])

    def test_unlike_is_made_of_nothing(self):
        self.assertEqual(vars(errors.Unlike()), {})
        with self.assertRaises(TypeError):
            errors.Unlike(1)

    def test_raised_and_caught_by_name(self):
        for name, base, field in ONES:
            made = getattr(errors, name)
            error = made() if field is None else made(3)
            for kind in (made, base):
                with self.assertRaises(kind) as caught:
                    raise error
                self.assertIs(caught.exception, error)

    def test_any_thing_is_told_back(self):
        things = [None, True, -1, "", "x", (), [], [1, (2, [3])], nested(10, list)]
        for name, field in OF_ANY_THING:
            for thing in things:
                told = getattr(getattr(errors, name)(thing), field)
                self.assertEqual(told, thing)
                self.assertIs(type(told), type(thing))
            self.assertIs(getattr(getattr(errors, name)(True), field), True)

    def test_a_thing_is_not_kept(self):
        for name, field in OF_ANY_THING:
            thing = [1, (2, [3])]
            error = getattr(errors, name)(thing)
            before = copy.deepcopy(thing)
            thing[1][1].append(4)
            thing.append(5)
            self.assertEqual(getattr(error, field), before)
            self.assertFalse(any(isinstance(part, list) for part in error.args))

    def test_a_thing_is_not_changed(self):
        for name, field in OF_ANY_THING:
            thing = [1, (2, [3])]
            told = getattr(getattr(errors, name)(thing), field)
            told[1][1].append(4)
            told.append(5)
            self.assertEqual(thing, [1, (2, [3])])


if __name__ == "__main__":
    unittest.main()
