"""Deeds as texts, words parted by single blanks."""

from oldways.deeds import is_day, parts_of
from oldways.errors import NoText
from oldways.land import is_hand

MOST_FIGURES = 60


def show_deed(deed):
    """The text of a deed."""
    words = [deed[0]]
    for part, worth in zip(parts_of(deed[0]), deed[1:]):
        if part == "stretch":
            words.append(f"{worth[0]}+{worth[1]}")
        elif part != "leave":
            words.append(str(worth))
        elif worth:
            words.append("leave")
    return " ".join(words)


def read_deed(text):
    """The deed of a text, in whatever land; refuses any other thing."""
    if not isinstance(text, str):
        raise NoText(0)
    words = text.split(" ")
    parts = parts_of(words[0])
    if not parts:
        raise NoText(0)
    deed = [words[0]]
    for part in parts:
        # The next word has the number of the next part: as many as there are.
        worth = _read_part(part, words, deed)
        if worth is None:
            raise NoText(len(deed))
        deed.append(worth)
    if len(words) > len(deed):
        raise NoText(len(deed))
    return tuple(deed)


def read_number(word):
    """The whole number of a word, None of another word."""
    if not 1 <= len(word) <= MOST_FIGURES:
        return None
    if not all(["0" <= sign <= "9" for sign in word]):
        return None
    if word[0] == "0" and word != "0":
        return None
    return int(word)


def _read_part(part, words, deed):
    """The next part of a deed that is read so far, None where the words don't go on so."""
    word = words[len(deed)] if len(deed) < len(words) else None
    if part == "leave":
        return _read_leave(word)
    if word is None:
        return None
    if part == "hand":
        return word if is_hand(word) else None
    if part == "stretch":
        return _read_stretch(word)
    day = read_number(word)
    # A use's last day stands straight behind its first one.
    if not is_day(day) or (part == "last" and day < deed[-1]):
        return None
    return day


def _read_leave(word):
    """True of the word, False where the text has come to its end, else None."""
    if word is None:
        return False
    return True if word == "leave" else None


def _read_stretch(word):
    """The stretch of a word, None of another word."""
    first_word, _, many_word = word.partition("+")
    first = read_number(first_word)
    many = read_number(many_word)
    if first is None or many is None or many == 0:
        return None
    return first, many
