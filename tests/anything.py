"""Any things, to hand in where something else is due."""

BIG = 10 ** 60 - 1


def nested(depth, made=tuple):
    """A number in so many tuples or lists within one another."""
    thing = 1
    for _ in range(depth):
        thing = made([thing])
    return thing


# Things by kind, to be told apart from those that are right.
TRUTHS = (True, False)
LISTS = ([], [0], [0, 1], [(0, 1)], [[0, 1]], [None, "ann"])
TUPLES = ((), (0,), (0, 1, 2), ((0, 1),), (((0, 1),),), (None,), ("ann",))
DEEP = (nested(10), nested(10, list), (nested(9), nested(9, list)))
WIDE = (tuple(range(299)), list(range(299)), "a" * 4000)
TEXTS = ("", "0", "1", "12", "-1", "1.0", " ", "a b", "True", "None", "\n")

NOT_WHOLE = TRUTHS + (None,) + TEXTS + LISTS + TUPLES + DEEP + WIDE
NOT_TUPLES = TRUTHS + (None, 0, 1, -1, BIG, "ann") + TEXTS + LISTS
