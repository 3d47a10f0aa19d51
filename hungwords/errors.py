"""What the program refuses with: a class for each refusal, straight under HangError."""


class HangError(ValueError):
    """What all refusals stand under."""


class NoHanging(HangError):
    """What would come of it is no hanging."""


class NoPlain(HangError):
    """A hanging has ties that cross."""


class NoSum(HangError):
    """The sum of all products is nought, or a number isn't below it."""


class NoEntry(HangError):
    """A book has no entry of that number."""


class Apart(HangError):
    """Two readers would come too far apart."""


class BadText(HangError):
    """A text writes no hanging."""


class NoStep(HangError):
    """A reader can't do a step; place: how many steps stand ahead of it."""

    def __init__(self, place):
        self.place = place


class BadSheet(HangError):
    """A sheet isn't written as told; row: the number of the first such row."""

    def __init__(self, row):
        self.row = row
