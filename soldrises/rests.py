"""Rests: a price goes by the days and by how often its good was sold, its rest by the sum by the days alone."""

from soldrises.errors import NoDay, NoSales
from soldrises.markets import check_market, check_prices, is_within
from soldrises.runs import check_days

# Of days that are not gone one by one.
MOST_FAR_DAYS = 1000000000000000


def check_far_days(days):
    """Refuse what is no number of days, however far."""
    if not is_within(days, 0, MOST_FAR_DAYS):
        raise NoDay("days are a whole number from 0 to 10 ** 15 here")


def check_sales(market, days, sales):
    """Refuse what are no numbers of sales of so many days."""
    many = len(market[0])
    if not isinstance(sales, list) or len(sales) != many:
        raise NoSales("sales are a list with one number for each good")
    if not all(is_within(number, 0, days) for number in sales):
        raise NoSales("a number of sales is a whole number from 0 to the days")


def price_by(good, days, number):
    """Tell a good's price behind so many days, of which it was sold at this number."""
    up, down, start = good
    return start + (up + down) * number - down * days


def prices_by(market, days, sales):
    """Tell the prices behind so many days, with each good sold so often."""
    check_market(market)
    check_days(days)
    check_sales(market, days, sales)
    return [price_by(good, days, number) for good, number in zip(market[0], sales)]


def rests_at(market, days):
    """Tell the rests that the prices have behind so many days, by their sums, whatever is sold."""
    check_market(market)
    check_far_days(days)
    return [price_by(good, days, 0) % (good[0] + good[1]) for good in market[0]]


def sales_to(market, days, prices):
    """Tell how often each good is to be sold to come to some prices behind so many days, or None."""
    check_market(market)
    check_prices(market, prices)
    check_days(days)
    sales = []
    for good, price in zip(market[0], prices):
        number, rest = divmod(price - price_by(good, days, 0), good[0] + good[1])
        if rest != 0 or not 0 <= number <= days:
            return None
        sales.append(number)
    return sales
