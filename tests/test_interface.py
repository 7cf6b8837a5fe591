"""The interface: each name stands in its file, with its arguments, made there."""

import inspect
import unittest
from importlib import import_module

EMPTY = inspect.Parameter.empty
BY_PLACE = inspect.Parameter.POSITIONAL_OR_KEYWORD
BY_NAME = inspect.Parameter.KEYWORD_ONLY

# File, name, arguments by place or name with what those have that may be left
# out, and likewise those by name alone.
FUNCTIONS = [
    ("stretches", "is_stretch", ["thing"], {}),
    ("stretches", "least", ["stretches"], {}),
    ("stretches", "both", ["one", "other"], {}),
    ("stretches", "less", ["one", "other"], {}),
    ("land", "is_hand", ["thing"], {}),
    ("land", "Land", ["cells", "hand"], {"grow": 20, "lapse": 20, "roads": ()}),
    ("errors", "NoLand", ["part"], {}),
    ("errors", "NoDeed", ["number"], {}),
    ("errors", "NoText", ["place"], {}),
    ("errors", "NoCell", ["cell"], {}),
    ("errors", "NoDay", ["day"], {}),
    ("errors", "NoHand", ["name"], {}),
    ("errors", "TooMany", ["most"], {}),
    ("errors", "Unlike", [], {}),
    ("deeds", "look_deed", ["land", "thing"], {}),
    ("book", "Book", ["land", ("told", ())], {"back": ()}),
    ("texts", "show_deed", ["deed"], {}),
    ("texts", "read_deed", ["text"], {}),
    ("hands", "hand_at", ["book", "cell", "day"], {}),
    ("hands", "holdings", ["book", "day"], {}),
    ("hands", "held", ["book", "hand", "day"], {}),
    ("hands", "chain", ["book", "cell"], {}),
    ("clock", "step", ["land", "stand", "seen"], {}),
    ("clock", "leapt", ["land", "stand", "seen"], {"many": 1}),
    ("pairs", "seen", ["book", "x", "y", "day"], {}),
    ("pairs", "stand", ["book", "x", "y", "day"], {}),
    ("pairs", "spans", ["book", "x", "y"], {}),
    ("pairs", "next_change", ["book", "x", "y", "day"], {}),
    ("sheets", "Sheet", ["rows"], {}),
    ("maps", "ways", ["book", "day"], {}),
    ("maps", "stands", ["book", "day"], {}),
    ("maps", "all_spans", ["book"], {}),
    ("maps", "changes", ["one", "other"], {}),
    ("maps", "counts", ["book", "day"], {}),
    ("maps", "quiet", ["book"], {}),
    ("maps", "parted", ["one", "other"], {}),
    ("titles", "title", ["book", "x", "y", "day"], {}),
    ("titles", "needful", ["book", "x", "y", "day"], {}),
    ("titles", "want", ["book", "x", "y", "day"], {}),
    ("looker", "is_title", ["book", "x", "y", "day", "thing"], {}),
    ("looker", "is_want", ["book", "x", "y", "day", "thing"], {}),
    ("freed", "freed", ["book", "day"], {}),
    ("freed", "is_freed", ["book", "day", "thing"], {}),
    ("freed", "free_by", ["book", "hand", "day"], {}),
    ("kept", "kept", ["book", "froms", "overs", "day"], {"until": EMPTY}),
    ("kept", "barred", ["book", "froms", "overs", "day"], {"until": EMPTY}),
    ("roads", "open_cells", ["book", "day"], {}),
    ("roads", "opens", ["book", "cell"], {"since": EMPTY}),
    ("roads", "opens_by_use", ["book", "cell"], {"since": EMPTY}),
    ("desk", "Desk", ["cells", "hand"], {"grow": 20, "lapse": 20, "roads": ()}),
]

# File, class, method, arguments, all by place or name.
METHODS = [
    ("land", "Land", ["cells", "hand", "grow", "lapse", "roads"], []),
    ("book", "Book", ["tell", "take_back"], ["deed"]),
    ("book", "Book", ["told", "back", "deeds", "land", "copy"], []),
    ("book", "Book", ["stands"], ["thing"]),
    ("book", "Book", ["merged"], ["other"]),
    ("sheets", "Sheet", ["rows", "area"], []),
    ("sheets", "Sheet", ["at"], ["x", "y"]),
    ("desk", "Desk", ["say"], ["row"]),
    ("desk", "Desk", ["book"], []),
]


def arguments(call):
    """The name, the kind and the default of each argument."""
    told = inspect.signature(call).parameters.values()
    return [(one.name, one.kind, one.default) for one in told]


class TestInterface(unittest.TestCase):
    def test_each_is_defined_in_its_file(self):
        for file, name, _, _ in FUNCTIONS:
            thing = getattr(import_module(f"oldways.{file}"), name)
            self.assertEqual(thing.__module__, f"oldways.{file}")
            self.assertEqual(thing.__name__, name)

    def test_arguments(self):
        for file, name, places, names in FUNCTIONS:
            thing = getattr(import_module(f"oldways.{file}"), name)
            pairs = [(place, EMPTY) if isinstance(place, str) else place for place in places]
            wanted = [(place, BY_PLACE, worth) for place, worth in pairs]
            wanted += [(key, BY_NAME, worth) for key, worth in names.items()]
            self.assertEqual(arguments(thing), wanted, name)

    def test_methods_stand_in_the_class_itself(self):
        for file, name, methods, places in METHODS:
            made = getattr(import_module(f"oldways.{file}"), name)
            wanted = [(place, BY_PLACE, EMPTY) for place in ["self", *places]]
            for method in methods:
                self.assertTrue(inspect.isfunction(vars(made).get(method)), (name, method))
                self.assertEqual(arguments(vars(made)[method]), wanted, (name, method))


if __name__ == "__main__":
    unittest.main()
