"""Spans of days: tuples (first, last)."""


def spans_between(turns):
    """The spans of all days from a turn up to the next one, then from the one behind that, and so on."""
    return [(first, behind - 1) for first, behind in zip(turns[::2], turns[1::2])]


def joined_spans(spans):
    """As few spans as can be with the days of rising ones, none over another one."""
    runs = []
    for first, last in spans:
        if runs and runs[-1][1] + 1 == first:
            runs[-1][1] = last
        else:
            runs.append([first, last])
    return [(first, last) for first, last in runs]
