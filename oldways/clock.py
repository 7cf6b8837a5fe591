"""The clockwork of a pair: how it stands, by what is seen of it on each day.

What is seen is a tuple of five truths: whether both cells are in one hand,
whether it is granted, ended, used without leave, used by leave.
"""


def step(land, stand, seen):
    """How a pair stands behind one more day."""
    behind, _ = leapt(land, stand, seen)
    return behind


def leapt(land, stand, seen, *, many=1):
    """How a pair stands behind so many like days, and on which it turned, or None."""
    one_hand, granted, ended, used, by_leave = seen
    word, _ = stand
    if one_hand:
        return _fixed("none", word)
    if granted:
        return _fixed("way", word)
    if ended:
        return _fixed("none", word)
    if word == "none" and used:
        return _counted(stand, many, land.grow(), "way")
    if word == "way" and not used and not by_leave:
        return _counted(stand, many, land.lapse(), "none")
    return _fixed(word, word)


def _fixed(word, ahead):
    """A stand that each of the days gives, and on which it turned from the word ahead, or None."""
    return (word, 0), None if word == ahead else 1


def _counted(stand, many, due, other):
    """A stand whose days go on up to the due one, which turns it into the other word."""
    word, days = stand
    if days + many < due:
        return (word, days + many), None
    return (other, 0), due - days
