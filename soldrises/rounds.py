"""Rounds: a market that is held comes round, so that its days are told however far, and all that it ever does."""

from soldrises.dealings import verdict
from soldrises.errors import NotHeld
from soldrises.markets import buyer_at, check_market, moved, starts_of, taken_by
from soldrises.rests import check_far_days


def check_held(market):
    """Refuse a market that no dealing holds; one at the edge may come round, too, but is not held."""
    if verdict(market)[0] != "holds":
        raise NotHeld("no dealing holds this market")


def check_far(market, days):
    """Refuse in the order that holds for all that is asked of days however far."""
    check_market(market)
    check_far_days(days)
    check_held(market)


def days_till_round(market):
    """Tell the first day of the round, and each day's take and the prices ahead of it, until the round ends."""
    prices = starts_of(market)
    told = []
    ahead = []
    # Days go alike from here on where both the prices and the place in the round of buyers are alike.
    place = (0, tuple(prices))
    first_at = {}
    while place not in first_at:
        day = len(told)
        first_at[place] = day
        take = taken_by(buyer_at(market, day), prices)
        told.append(take)
        ahead.append(prices)
        prices = moved(market[0], prices, take)
        place = ((day + 1) % len(market[1]), tuple(prices))
    return first_at[place], told, ahead


def held_days(market):
    """Refuse what is no market, then one that is not held; tell its days until the round ends."""
    check_market(market)
    check_held(market)
    return days_till_round(market)


def near_day(first, many, day):
    """Tell the one of the first so many days that a day is like, where the round begins at first and ends there."""
    if day < many:
        return day
    return first + (day - first) % (many - first)


def round_of(market):
    """Tell the first day of the round to which the market comes, and the round's length."""
    first, told, _ = held_days(market)
    return (first, len(told) - first)


def sold_in_round(market):
    """Tell how often each good is sold in the round."""
    first, told, _ = held_days(market)
    return [told[first:].count(good) for good in range(len(market[0]))]


def far_prices(market, days):
    """Tell the prices behind so many days, however far."""
    check_far(market, days)
    first, told, ahead = days_till_round(market)
    return list(ahead[near_day(first, len(told), days)])


def far_take(market, day):
    """Tell the number of the good that is taken at a day, however far, or None."""
    check_far(market, day)
    first, told, _ = days_till_round(market)
    return told[near_day(first, len(told), day)]


def ever(market):
    """Tell for each good the least and the greatest price that it ever has."""
    _, _, ahead = held_days(market)
    told = []
    for good in range(len(market[0])):
        of_good = [prices[good] for prices in ahead]
        told.append((min(of_good), max(of_good)))
    return told


def receipts(market):
    """Tell for each good the prices at which it is sold in the round, together."""
    first, told, ahead = held_days(market)
    taken_in = [0] * len(market[0])
    for take, prices in zip(told[first:], ahead[first:]):
        if take is not None:
            taken_in[take] += prices[take]
    return taken_in


def first_unlike(market, other):
    """Tell the first day at which two markets don't take alike, or None."""
    check_market(market)
    check_market(other)
    check_held(market)
    check_held(other)
    first, told, _ = days_till_round(market)
    second, others, _ = days_till_round(other)
    # Of two rows that come again after p and after q things, p + q alike are enough for all to be alike.
    enough = max(first, second) + len(told) - first + len(others) - second
    for day in range(enough):
        if told[near_day(first, len(told), day)] != others[near_day(second, len(others), day)]:
            return day
    return None
