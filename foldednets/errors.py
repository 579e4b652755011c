"""The errors that the package raises.

No message repeats what was passed: numbers of very many digits cannot be written out.
"""


class InvalidNumber(ValueError):
    """A number of places or of people is not as described; `number` is what was passed."""

    def __init__(self, number):
        ValueError.__init__(self, "the number of places or of people is not as described")
        self.number = number


class InvalidNet(ValueError):
    """Lines are not those of a net; `index` tells the first wrong one, None that they are no list."""

    def __init__(self, index):
        ValueError.__init__(self, "the lines are not those of a net")
        self.index = index


class InvalidOrder(ValueError):
    """An order or a list of places is not as described; `index` tells where, None that it is no list."""

    def __init__(self, index):
        ValueError.__init__(self, "the order or the list of places is not as described")
        self.index = index


class InvalidStanding(ValueError):
    """A standing is not as described; `index` tells where, None that it is no list of that length."""

    def __init__(self, index):
        ValueError.__init__(self, "the standing is not as described")
        self.index = index


class NotBeside(ValueError):
    """Two people who know one another do not stand beside one another; `pair` tells who."""

    def __init__(self, pair):
        ValueError.__init__(self, "two people who know one another do not stand beside one another")
        self.pair = pair


class UnknownPlace(LookupError):
    """Something is not a place of the net; `place` is what was passed."""

    def __init__(self, place):
        LookupError.__init__(self, "this is not a place of the net")
        self.place = place


class CannotFold(LookupError):
    """A place cannot be folded onto another one now; `place` is the one to be folded."""

    def __init__(self, place):
        LookupError.__init__(self, "the place cannot be folded onto the other one now")
        self.place = place


class NothingToUndo(LookupError):
    """There is no fold to take back."""
