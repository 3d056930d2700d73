"""Stalls: a market that is gone through day by day, with buyers told ahead and steps changed on the way."""

from soldrises.errors import NoBuyer, NoGood, NoStep
from soldrises.markets import (
    buyer_at, check_market, is_buyer, is_number_of_good, is_step, moved, starts_of, taken_by,
)


def check_buyer(market, buyer):
    """Refuse what is neither a buyer for the market's goods nor None."""
    if buyer is not None and not is_buyer(buyer, len(market[0])):
        raise NoBuyer("a buyer is a list with a worth, or None, for each good")


def check_steps(market, good, up, down):
    """Refuse what is no good's number, then what are no steps."""
    if not is_number_of_good(good, len(market[0])):
        raise NoGood("this is no number of a good")
    if not is_step(up) or not is_step(down):
        raise NoStep("a step is a whole number from 1 to 4")


def copy_of_buyer(buyer):
    """Tell a buyer anew, or None."""
    return None if buyer is None else list(buyer)


def copy_of_market(market):
    """Tell a market anew, so that the asker's own lists change nothing in it."""
    return (list(market[0]), [copy_of_buyer(buyer) for buyer in market[1]])


class Stall:
    """A market at some day of its run."""

    def __init__(self, market):
        check_market(market)
        self._market = copy_of_market(market)
        self._day = 0
        self._prices = starts_of(market)
        self._sales = [0] * len(market[0])
        # Who was told for the next day, in a list, as nobody (None) may be told, too.
        self._told = []
        self._log = []

    def tick(self):
        """Go one day on; tell the number of the good that was taken at it, or None."""
        self._log.append("in tick")
        buyer = self._told[0] if self._told else buyer_at(self._market, self._day)
        take = taken_by(buyer, self._prices)
        if take is not None:
            self._sales[take] += 1
        self._prices = moved(self._market[0], self._prices, take)
        self._told = []
        self._day += 1
        self._log.append("out tick")
        return take

    def tell(self, buyer):
        """Let a buyer, or nobody, come at the next day that is gone, in the place of the round's."""
        self._log.append("in tell")
        try:
            check_buyer(self._market, buyer)
            self._told = [copy_of_buyer(buyer)]
        finally:
            self._log.append("out tell")

    def step(self, good, up, down):
        """Give a good other steps from now on."""
        self._log.append("in step")
        try:
            check_steps(self._market, good, up, down)
            self._market[0][good] = (up, down, self._market[0][good][2])
        finally:
            self._log.append("out step")

    def day(self):
        """Tell the day that is gone next: how many were gone."""
        return self._day

    def prices(self):
        """Tell the prices of now."""
        return list(self._prices)

    def sold(self):
        """Tell how often each good was sold."""
        return list(self._sales)

    def log(self):
        """Tell of each deed, in order, that it was begun and that it ended."""
        return list(self._log)
