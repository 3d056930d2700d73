"""The refusals: one class for each kind, all of them just under SoldError."""


class SoldError(ValueError):
    """Any refusal."""


class NoMarket(SoldError):
    """A thing that is no market."""


class NoPrices(SoldError):
    """A thing that is no list of prices for the market's goods."""


class NoDay(SoldError):
    """A thing that is no day, or no number of days."""


class NoBuyer(SoldError):
    """A thing that is no buyer for the market's goods."""


class NoGood(SoldError):
    """A thing that is no number of a good."""


class NoStep(SoldError):
    """Things that are no steps of a good."""


class NoSales(SoldError):
    """A thing that is no list of numbers of sales."""


class NoRest(SoldError):
    """Two lists of prices of unlike rests."""


class NoOrder(SoldError):
    """Two lists of prices that don't stand in order."""


class TooMany(SoldError):
    """More lists than are told."""


class NotHeld(SoldError):
    """A market that no dealing holds."""


class NoGoods(SoldError):
    """A thing that is no list of goods, or no set of them."""


class NoLength(SoldError):
    """A thing that is no length of a round."""


class NoRow(SoldError):
    """A thing that is no row."""


class NoName(SoldError):
    """A name by which no market stands."""


class NoWorths(SoldError):
    """A row of takes that no worths let be; days show that there are none."""

    def __init__(self, days=None):
        # A message of its own, as the error would keep the very list handed in as its message otherwise.
        SoldError.__init__(self, "no worths let the row be")
        self.days = list(days) if isinstance(days, list) else days


class NoText(SoldError):
    """A thing that writes no market; at is the number of the first row amiss."""

    def __init__(self, at=None):
        SoldError.__init__(self, "this writes no market")
        self.at = at
