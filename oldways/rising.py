"""Places in rising lists of numbers, found without going through all of them."""


def place_of(rising, worth):
    """The place of the last of rising numbers that isn't above a worth, -1 where there is none."""
    low = 0
    high = len(rising)
    while low < high:
        middle = (low + high) // 2
        if rising[middle] <= worth:
            low = middle + 1
        else:
            high = middle
    return low - 1
