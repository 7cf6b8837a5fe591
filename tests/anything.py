"""Any things, to hand in where something else is due."""

BIG = 10 ** 60 - 1


def nested(depth, made=tuple):
    """A number in so many tuples or lists within one another."""
    thing = 1
    for _ in range(depth):
        thing = made([thing])
    return thing


# Things by kind, to be told apart from those that are right.
TRUTHS = (True, False)
LISTS = ([], [0], [0, 1], [(0, 1)], [[0, 1]], [None, "ann"])
TUPLES = ((), (0,), (0, 1, 2), ((0, 1),), (((0, 1),),), (None,), ("ann",))
DEEP = (nested(10), nested(10, list), (nested(9), nested(9, list)))
WIDE = (tuple(range(299)), list(range(299)), "a" * 4000)
TEXTS = ("", "0", "1", "12", "-1", "1.0", " ", "a b", "True", "None", "\n")

NOT_WHOLE = TRUTHS + (None,) + TEXTS + LISTS + TUPLES + DEEP + WIDE
NOT_TUPLES = TRUTHS + (None, 0, 1, -1, BIG, "ann") + TEXTS + LISTS


def others(thing):
    """Things that stand near a thing, but are none like it."""
    if isinstance(thing, bool):
        return [int(thing), not thing, None, str(thing), [thing], (thing,)]
    if isinstance(thing, int):
        near = [thing + 1, thing - 1, -thing, BIG, 0, 1]
        return [one for one in near if one != thing] + [bool(thing), None, str(thing), [thing], (thing,)]
    if isinstance(thing, str):
        return [thing + "a", thing[:-1], thing.upper(), "", "zed", None, 0, [thing], (thing,), list(thing)]
    if isinstance(thing, (tuple, list)):
        return _other_rows(thing) + [None, 0, True, "", [thing], (thing,)]
    return [0, False, ""]


def _other_rows(thing):
    """A tuple or list as the other kind, with a part left out, put in twice, turned about, or swapped."""
    kind = type(thing)
    rows = [list(thing) if kind is tuple else tuple(thing), kind(), thing[::-1]]
    for at in range(len(thing)):
        rows += [thing[:at] + thing[at + 1:], thing[:at + 1] + thing[at:], thing[at:] + thing[:at]]
        rows.append(thing[:at] + kind([None]) + thing[at:])
    return [row for row in rows if row != thing or type(row) is not kind]


def variants(thing):
    """A thing with one part, however deep, put otherwise, left out, put in twice, turned about."""
    rows = others(thing)
    if isinstance(thing, (tuple, list)):
        for at, part in enumerate(thing):
            rows += [thing[:at] + type(thing)([other]) + thing[at + 1:] for other in variants(part)]
    return rows


# Any things at all.
ANYTHING = NOT_TUPLES + TUPLES + DEEP + WIDE + tuple(LISTS)
