"""Markets: what is one, what the buyer of a day takes, and what the prices are behind that day."""

from math import gcd

from soldrises.errors import NoDay, NoMarket, NoPrices

MOST_GOODS = 4
MOST_DAYS_OF_ROUND = 6
MOST_STEP = 4
# Of starts and of worths, either way.
MOST_WORTH = 99
# Of prices that are handed in, either way; those that are told may go beyond it.
MOST_PRICE = 1000000


def is_whole(thing):
    """Tell whether a thing is a whole number."""
    # Truths are ints to Python, but no whole numbers here.
    return isinstance(thing, int) and not isinstance(thing, bool)


def is_within(thing, least, most):
    """Tell whether a thing is a whole number from least to most."""
    return is_whole(thing) and least <= thing <= most


def is_step(thing):
    """Tell whether a thing is a step, up or down."""
    return is_within(thing, 1, MOST_STEP)


def is_worth(thing):
    """Tell whether a thing is a worth of a good, or a good's start."""
    return is_within(thing, -MOST_WORTH, MOST_WORTH)


def is_good(thing):
    """Tell whether a thing is a good: (up, down, start)."""
    if not isinstance(thing, tuple) or len(thing) != 3:
        return False
    return is_step(thing[0]) and is_step(thing[1]) and is_worth(thing[2])


def is_list_of_goods(thing):
    """Tell whether a thing is a list of goods as a market has it."""
    if not isinstance(thing, list) or not 1 <= len(thing) <= MOST_GOODS:
        return False
    return all(is_good(good) for good in thing)


def is_number_of_good(thing, many):
    """Tell whether a thing is the number of one of so many goods."""
    return is_within(thing, 0, many - 1)


def is_buyer(thing, many):
    """Tell whether a thing is a buyer for so many goods."""
    if not isinstance(thing, list) or len(thing) != many:
        return False
    return all(worth is None or is_worth(worth) for worth in thing)


def is_round(thing, many):
    """Tell whether a thing is a round of buyers for so many goods."""
    if not isinstance(thing, list) or not 1 <= len(thing) <= MOST_DAYS_OF_ROUND:
        return False
    return all(buyer is None or is_buyer(buyer, many) for buyer in thing)


def is_market(thing):
    """Tell whether a thing is a market: (goods, round)."""
    if not isinstance(thing, tuple) or len(thing) != 2:
        return False
    return is_list_of_goods(thing[0]) and is_round(thing[1], len(thing[0]))


def check_market(market):
    """Refuse what is no market."""
    if not is_market(market):
        raise NoMarket("this is no market")


def check_prices(market, prices):
    """Refuse what are no prices of the market's goods."""
    many = len(market[0])
    if not isinstance(prices, list) or len(prices) != many:
        raise NoPrices("prices are a list with one for each good")
    if not all(is_within(price, -MOST_PRICE, MOST_PRICE) for price in prices):
        raise NoPrices("a price is a whole number from -1000000 to 1000000")


def check_day(day):
    """Refuse what is no day's number."""
    if not is_whole(day) or day < 0:
        raise NoDay("a day is a whole number from 0 on")


def fraction_of(top, bottom):
    """Tell a fraction in lowest terms; bottom is from 1 on."""
    shared = gcd(top, bottom)
    return (top // shared, bottom // shared)


def sums(market):
    """Tell each good's up and down together."""
    check_market(market)
    return [up + down for up, down, _ in market[0]]


def shares(market):
    """Tell each good's share of the days: its down over its sum."""
    check_market(market)
    return [fraction_of(down, up + down) for up, down, _ in market[0]]


def starts_of(market):
    """Tell the prices that a market starts with."""
    return [start for _, _, start in market[0]]


def buyer_at(market, day):
    """Tell the buyer of a day, or None, where nobody comes."""
    return market[1][day % len(market[1])]


def taken_by(buyer, prices):
    """Tell the number of the good that a buyer takes at some prices, or None."""
    if buyer is None:
        return None
    take = None
    # One below the least gain for which a good is taken.
    most = -1
    for good, worth in enumerate(buyer):
        if worth is not None and worth - prices[good] > most:
            take = good
            most = worth - prices[good]
    return take


def wants(buyer, good):
    """Tell whether a buyer, or nobody, wants a good."""
    return buyer is not None and buyer[good] is not None


def moved(goods, prices, take):
    """Tell the prices behind a day at which this good, or None, was taken."""
    behind = []
    for good, (up, down, _) in enumerate(goods):
        behind.append(prices[good] + up if good == take else prices[good] - down)
    return behind


def check_asked(market, prices, day):
    """Refuse in the one order that holds for all that is asked of a market, prices and a day."""
    check_market(market)
    check_prices(market, prices)
    check_day(day)


def take_of(market, prices, *, day=0):
    """Tell the number of the good that the buyer of a day takes at some prices, or None."""
    check_asked(market, prices, day)
    return taken_by(buyer_at(market, day), prices)


def prices_behind(market, prices, *, day=0):
    """Tell the prices behind a day that had these prices."""
    check_asked(market, prices, day)
    take = taken_by(buyer_at(market, day), prices)
    return moved(market[0], prices, take)
