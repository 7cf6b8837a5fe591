"""What is asked of any thing, whatever it is built of."""


def is_whole(thing):
    """Whether a thing is a whole number."""
    # A truth is an int to Python, but no number here.
    return isinstance(thing, int) and not isinstance(thing, bool)


def own(thing):
    """The same thing, its lists made anew, so that it can be kept."""
    if isinstance(thing, list):
        return [own(part) for part in thing]
    if isinstance(thing, tuple):
        return tuple([own(part) for part in thing])
    return thing
