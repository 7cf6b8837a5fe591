"""What becomes of a pair by what is seen of it on a day, however it stood ahead.

What is seen is a tuple of five truths, as the clockwork takes it.
"""


def is_falling(seen):
    """Whether it is none at the day's end, whatever was ahead."""
    one_hand, granted, ended, _, _ = seen
    return one_hand or (ended and not granted)


def is_granting(seen):
    """Whether it is a way at the day's end, whatever was ahead."""
    one_hand, granted, _, _, _ = seen
    return granted and not one_hand


def is_growing(seen):
    """Whether the day counts among those of use behind which a way arises."""
    one_hand, _, ended, used, _ = seen
    return used and not one_hand and not ended


def is_idle(seen):
    """Whether a way is neither granted anew nor walked on the day."""
    _, granted, _, used, by_leave = seen
    return not granted and not used and not by_leave
