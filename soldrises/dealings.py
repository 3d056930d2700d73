"""Dealings: of buyers to goods, by which prices stay within bounds, and sets of goods by which they fall."""

from math import lcm

from soldrises.errors import NoGoods
from soldrises.markets import check_market, fraction_of, is_number_of_good, is_within, wants

MOST_BOTTOM = 1000000000


def is_set(thing, many):
    """Tell whether a thing is a set of so many goods: a rising list of their numbers, one at least."""
    if not isinstance(thing, list) or not thing:
        return False
    if not all(is_number_of_good(good, many) for good in thing):
        return False
    return all(thing[at] < thing[at + 1] for at in range(len(thing) - 1))


def check_set(market, goods):
    """Refuse what is no market, then what is no set of its goods."""
    check_market(market)
    if not is_set(goods, len(market[0])):
        raise NoGoods("a set is a rising list of goods' numbers, one at least")


def all_sets(market):
    """Tell all sets of the market's goods."""
    told = [[]]
    for good in range(len(market[0])):
        told = told + [goods + [good] for goods in told]
    return told[1:]


def wants_one(buyer, goods):
    """Tell whether a buyer, or nobody, wants one of these goods."""
    return any(wants(buyer, good) for good in goods)


def shared_bottom(market):
    """Tell the least number from 1 on that all sums divide."""
    bottom = 1
    for up, down, _ in market[0]:
        bottom = lcm(bottom, up + down)
    return bottom


def parts_needed(market, bottom):
    """Tell what each good needs, its share times the round's length, over a bottom that all sums divide."""
    return [down * len(market[1]) * (bottom // (up + down)) for up, down, _ in market[0]]


def needs(market, goods):
    """Tell how many days of the round a set needs, a fraction."""
    check_set(market, goods)
    bottom = shared_bottom(market)
    needed = parts_needed(market, bottom)
    return fraction_of(sum(needed[good] for good in goods), bottom)


def has(market, goods):
    """Tell how many days of the round have a buyer who wants one of a set."""
    check_set(market, goods)
    return len([buyer for buyer in market[1] if wants_one(buyer, goods)])


def lack_of(market, goods):
    """Tell a number above 0 where a set needs more than it has, 0 where just so many, below 0 where fewer."""
    top, bottom = needs(market, goods)
    return top - bottom * has(market, goods)


def does_fall(market, goods):
    """Tell of anything whether it is a set that needs more than it has."""
    check_market(market)
    return is_set(goods, len(market[0])) and lack_of(market, goods) > 0


def is_day_of_dealing(thing, buyer, many, bottom):
    """Tell whether a thing deals out at most a whole day, and only what the day's buyer wants."""
    if not isinstance(thing, list) or len(thing) != many:
        return False
    if not all(is_within(part, 0, bottom) for part in thing):
        return False
    if not all(part == 0 or wants(buyer, good) for good, part in enumerate(thing)):
        return False
    return sum(thing) <= bottom


def is_dealing(thing, market):
    """Tell whether a thing is a dealing of the market's buyers: (parts, bottom)."""
    if not isinstance(thing, tuple) or len(thing) != 2:
        return False
    parts, bottom = thing
    if not is_within(bottom, 1, MOST_BOTTOM):
        return False
    if not isinstance(parts, list) or len(parts) != len(market[1]):
        return False
    many = len(market[0])
    return all(is_day_of_dealing(day, buyer, many, bottom) for day, buyer in zip(parts, market[1]))


def does_hold(market, dealing):
    """Tell of anything whether it is a dealing that gives each good more than it needs."""
    check_market(market)
    if not is_dealing(dealing, market):
        return False
    parts, bottom = dealing
    for good, (up, down, _) in enumerate(market[0]):
        if sum(day[good] for day in parts) * (up + down) <= down * len(market[1]) * bottom:
            return False
    return True


def part_of(market, due, left, day, good):
    """Tell the most that a day can give to a good so that what is left does for what is due to all sets."""
    # A set with the good in it has less then, but just so much less is due to it: only the others can fall short.
    most = min(due[good], left[day])
    for goods in all_sets(market):
        if good not in goods and wants_one(market[1][day], goods):
            had = sum(left[at] for at, buyer in enumerate(market[1]) if wants_one(buyer, goods))
            most = min(most, had - sum(due[one] for one in goods))
    return most


def dealing_of(market):
    """Tell a dealing that holds a market in which each set needs less than it has."""
    many = len(market[0])
    # Each set has at least one over the shared bottom to spare, which is a part more for each good by this bottom.
    bottom = many * shared_bottom(market)
    due = [part + 1 for part in parts_needed(market, bottom)]
    left = [bottom] * len(market[1])
    parts = [[0] * many for _ in market[1]]
    # As each part is the most that it can be, no day has to be looked at again, and nothing is due in the end.
    for day, buyer in enumerate(market[1]):
        for good in range(many):
            if wants(buyer, good):
                part = part_of(market, due, left, day, good)
                parts[day][good] = part
                due[good] -= part
                left[day] -= part
    return (parts, bottom)


def verdict(market):
    """Tell a dealing that holds the market, or a set that falls in it, or a set at the edge, with the word for it."""
    check_market(market)
    edge = None
    for goods in all_sets(market):
        lack = lack_of(market, goods)
        if lack > 0:
            return ("falls", goods)
        if lack == 0:
            edge = goods
    if edge is not None:
        return ("edge", edge)
    return ("holds", dealing_of(market))
