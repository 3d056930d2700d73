"""Seen: which worths a row of days that was seen lets be."""

from soldrises.errors import NoGoods, NoLength, NoRow, NoWorths
from soldrises.markets import (
    MOST_DAYS_OF_ROUND, is_list_of_goods, is_number_of_good, is_within, moved, taken_by,
)

MOST_ROW = 300


def check_goods(goods):
    """Refuse what is no list of goods."""
    if not is_list_of_goods(goods):
        raise NoGoods("goods are a list of one to four goods")


def check_length(length):
    """Refuse what is no round's length."""
    if not is_within(length, 1, MOST_DAYS_OF_ROUND):
        raise NoLength("a round's length is a whole number from 1 to 6")


def check_row(row, many):
    """Refuse what is no row of takes of so many goods."""
    if not isinstance(row, list) or not 1 <= len(row) <= MOST_ROW:
        raise NoRow("a row is a list of one to three hundred takes")
    if not all(take is None or is_number_of_good(take, many) for take in row):
        raise NoRow("a take is a good's number or None")


def prices_ahead(goods, row):
    """Tell the prices ahead of each day of a row."""
    prices = [start for _, _, start in goods]
    told = []
    for take in row:
        told.append(prices)
        prices = moved(goods, prices, take)
    return told


def gap_of(prices, good, take):
    """Tell by how much the worth of a good may at most be above that of the one that was taken at these prices."""
    gap = prices[good] - prices[take]
    # Of several that are as far above their prices the first is taken, so a good ahead must be less far above.
    return gap - 1 if good < take else gap


def asked_by(row, ahead, days):
    """Tell what the takes of some days ask of the worths: floors, caps, and gaps by pairs of goods, as dicts."""
    floors = {}
    caps = {}
    gaps = {}
    for day in days:
        take = row[day]
        prices = ahead[day]
        if take is None:
            for good, price in enumerate(prices):
                caps[good] = min(price - 1, caps.get(good, price - 1))
        else:
            floors[take] = max(prices[take], floors.get(take, prices[take]))
            for good in range(len(prices)):
                if good != take:
                    gap = gap_of(prices, good, take)
                    gaps[(good, take)] = min(gap, gaps.get((good, take), gap))
    return floors, caps, gaps


def least_worths(floors, caps, gaps):
    """Tell the least worths of the goods that must be wanted, a dict, or None, where there are none."""
    least = dict(floors)
    # By the gaps a floor is handed on from good to good, so as many times as there are goods are enough.
    for _ in floors:
        for (good, take), gap in gaps.items():
            if good in least:
                least[take] = max(least[take], least[good] - gap)
    for (good, take), gap in gaps.items():
        if good in least and least[good] - least[take] > gap:
            return None
    if any(good in caps and worth > caps[good] for good, worth in least.items()):
        return None
    return least


def greatest_worths(many, caps, gaps):
    """Tell the greatest worths of so many goods, where there are any worths, a list; None for no bound."""
    # Without a day at which nothing was taken, all worths may be higher together.
    if not caps:
        return [None] * many
    greatest = [caps[good] for good in range(many)]
    for _ in range(many):
        for (good, take), gap in gaps.items():
            greatest[good] = min(greatest[good], greatest[take] + gap)
    return greatest


def days_amiss(row, ahead, days):
    """Tell days of these whose takes can't be together, while those of any part of them can."""
    left = list(days)
    for day in days:
        others = [other for other in left if other != day]
        floors, caps, gaps = asked_by(row, ahead, others)
        if least_worths(floors, caps, gaps) is None:
            left = others
    return left


def worths_let(goods, length, row):
    """Tell for each day of a round the least and the greatest worths by which a row may be."""
    check_goods(goods)
    check_length(length)
    check_row(row, len(goods))
    ahead = prices_ahead(goods, row)
    told = []
    for first in range(length):
        days = list(range(first, len(row), length))
        floors, caps, gaps = asked_by(row, ahead, days)
        least = least_worths(floors, caps, gaps)
        if least is None:
            raise NoWorths(days_amiss(row, ahead, days))
        told.append(([least.get(good) for good in range(len(goods))], greatest_worths(len(goods), caps, gaps)))
    return told


def lets_be(goods, worths, row):
    """Tell whether the run of a round of worths takes just as a row."""
    check_goods(goods)
    check_row(row, len(goods))
    # By the prices of the row itself, as up to the first day that is unlike both have the same ones.
    ahead = prices_ahead(goods, row)
    return all(taken_by(worths[day % len(worths)], ahead[day]) == take for day, take in enumerate(row))
