"""The interface: each name stands in its file, with its arguments, made there."""

import inspect
import unittest
from importlib import import_module

EMPTY = inspect.Parameter.empty
BY_PLACE = inspect.Parameter.POSITIONAL_OR_KEYWORD
BY_NAME = inspect.Parameter.KEYWORD_ONLY

# File, name, arguments by place or name, those by name alone with what they have if left out.
FUNCTIONS = [
    ("stretches", "is_stretch", ["thing"], {}),
    ("stretches", "least", ["stretches"], {}),
    ("stretches", "both", ["one", "other"], {}),
    ("stretches", "less", ["one", "other"], {}),
    ("land", "is_hand", ["thing"], {}),
    ("land", "Land", ["cells", "hand"], {"grow": 20, "lapse": 20, "roads": ()}),
    ("errors", "NoLand", ["part"], {}),
    ("errors", "NoDeed", ["number"], {}),
    ("errors", "NoText", ["place"], {}),
    ("errors", "NoCell", ["cell"], {}),
    ("errors", "NoDay", ["day"], {}),
    ("errors", "NoHand", ["name"], {}),
    ("errors", "TooMany", ["most"], {}),
    ("errors", "Unlike", [], {}),
]


class TestInterface(unittest.TestCase):
    def test_each_is_defined_in_its_file(self):
        for file, name, _, _ in FUNCTIONS:
            thing = getattr(import_module(f"oldways.{file}"), name)
            self.assertEqual(thing.__module__, f"oldways.{file}")
            self.assertEqual(thing.__name__, name)

    def test_arguments(self):
        for file, name, places, names in FUNCTIONS:
            thing = getattr(import_module(f"oldways.{file}"), name)
            told = inspect.signature(thing).parameters.values()
            wanted = [(place, BY_PLACE, EMPTY) for place in places]
            wanted += [(key, BY_NAME, worth) for key, worth in names.items()]
            self.assertEqual([(one.name, one.kind, one.default) for one in told], wanted, name)


if __name__ == "__main__":
    unittest.main()
