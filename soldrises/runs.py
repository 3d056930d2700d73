"""Runs: a market from its starts on, day by day."""

from soldrises.errors import NoDay
from soldrises.markets import buyer_at, check_market, is_within, moved, starts_of, taken_by

MOST_DAYS = 4000


def check_days(days):
    """Refuse what is no number of days that a run is told of."""
    if not is_within(days, 0, MOST_DAYS):
        raise NoDay("days are a whole number from 0 to 4000")


def run_of(market, days):
    """Tell the takes of so many days, and the prices behind them."""
    check_market(market)
    check_days(days)
    prices = starts_of(market)
    told = []
    for day in range(days):
        take = taken_by(buyer_at(market, day), prices)
        told.append(take)
        prices = moved(market[0], prices, take)
    return told, prices


def takes(market, days):
    """Tell what was taken at each of so many days: a good's number, or None."""
    told, _ = run_of(market, days)
    return told


def prices_at(market, days):
    """Tell the prices behind so many days."""
    _, prices = run_of(market, days)
    return prices


def sold(market, days):
    """Tell how often each good was sold in so many days."""
    told, _ = run_of(market, days)
    return [told.count(good) for good in range(len(market[0]))]
