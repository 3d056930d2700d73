"""Starts: lists of prices of one rest, how far they are, whether they stand in order, and where they meet."""

from soldrises.errors import NoOrder, NoRest, TooMany
from soldrises.markets import buyer_at, check_day, check_market, check_prices, moved, taken_by
from soldrises.runs import check_days

MOST_LISTS = 300


def check_two(market, one, other):
    """Refuse what is no market, then what are no two lists of prices."""
    check_market(market)
    check_prices(market, one)
    check_prices(market, other)


def have_one_rest(market, one, other):
    """Tell whether two lists of prices have the same rests by the sums."""
    return all((one[at] - other[at]) % (good[0] + good[1]) == 0 for at, good in enumerate(market[0]))


def are_in_order(one, other):
    """Tell whether each price of a list is at most that of another list."""
    return all(low <= high for low, high in zip(one, other))


def check_one_rest(market, one, other):
    """Refuse in the order that holds for all that is asked of two lists of one rest."""
    check_two(market, one, other)
    if not have_one_rest(market, one, other):
        raise NoRest("the two lists of prices are not of one rest")


def are_of_one_rest(market, one, other):
    """Tell whether two lists of prices have the same rests by the sums."""
    check_two(market, one, other)
    return have_one_rest(market, one, other)


def stand_in_order(market, one, other):
    """Tell whether each price of the first list is at most that of the second."""
    check_two(market, one, other)
    return are_in_order(one, other)


def how_far(market, one, other):
    """Tell how far two lists of one rest are: what they differ by over the sums, together."""
    check_one_rest(market, one, other)
    return sum(abs(one[at] - other[at]) // (good[0] + good[1]) for at, good in enumerate(market[0]))


def gone_on(market, prices, day):
    """Tell the prices behind a day that had these, however low or high they are."""
    take = taken_by(buyer_at(market, day), prices)
    return moved(market[0], prices, take)


def meets(market, one, other, *, day=0, bound=400):
    """Tell the least number of days, to a bound, behind which two lists of one rest are alike, or None."""
    check_one_rest(market, one, other)
    check_day(day)
    check_days(bound)
    first = one
    second = other
    for gone in range(bound):
        if first == second:
            return gone
        first = gone_on(market, first, day + gone)
        second = gone_on(market, second, day + gone)
    return bound if first == second else None


def number_between(market, one, other):
    """Tell how many lists there are between two of one rest that stand in order, themselves too."""
    number = 1
    for at, (up, down, _) in enumerate(market[0]):
        number = number * ((other[at] - one[at]) // (up + down) + 1)
    return number


def between(market, one, other):
    """Tell all lists of one rest between two that stand in order, sorted, themselves too."""
    check_one_rest(market, one, other)
    if not are_in_order(one, other):
        raise NoOrder("the two lists of prices don't stand in order")
    # Counted ahead, as there may be far too many to make them.
    if number_between(market, one, other) > MOST_LISTS:
        raise TooMany("there are more than 300 lists between the two")
    told = [[]]
    for at, (up, down, _) in enumerate(market[0]):
        told = [begun + [price] for begun in told for price in range(one[at], other[at] + 1, up + down)]
    return told
