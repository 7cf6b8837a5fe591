"""The refusals, one class for each kind."""

from oldways.things import own


class NoLand(ValueError):
    """No land can be made so: part is the name of the first part that is wrong."""

    def __init__(self, part):
        self.part = part


class NoDeed(ValueError):
    """No deed of the land: number is that of its first part that is wrong."""

    def __init__(self, number):
        self.number = number


class NoText(ValueError):
    """No text that is understood: place is the number of the first word that is wrong."""

    def __init__(self, place):
        self.place = place


# The next three are made of any thing, which may be a list. Python keeps what
# an error is made of beside its message, unless it is told another message.


class NoCell(IndexError):
    """No cell of the land: cell is the thing that was told as one."""

    def __init__(self, cell):
        super().__init__("no cell of the land")
        self.cell = own(cell)


class NoDay(LookupError):
    """No day: day is the thing that was told as one."""

    def __init__(self, day):
        super().__init__("no day")
        self.day = own(day)


class NoHand(KeyError):
    """No hand that holds a cell: name is the thing that was told as one."""

    def __init__(self, name):
        super().__init__("no hand that holds a cell")
        self.name = own(name)


class TooMany(OverflowError):
    """More than a book takes: most is how many it takes."""

    def __init__(self, most):
        self.most = most


class Unlike(RuntimeError):
    """Two books are of lands that aren't the same."""

    def __init__(self):
        super().__init__()
