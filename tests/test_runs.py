"""Points 2 and 7: the takes, the prices and the sales of so many days."""

import copy
import unittest

from samples import (
    HUGE, NOBODY, PLAIN, broken_markets, kinds_of, lists_in, not_whole, prices_by_hand, refusal, some_markets,
    take_by_hand, things_of_other_kinds, turned,
)
from soldrises.errors import NoDay, NoMarket
from soldrises.markets import prices_behind, take_of
from soldrises.runs import prices_at, sold, takes

FUNCTIONS = (takes, prices_at, sold)


def day_by_day(market, days):
    """The takes, the prices and the sales, gone day by day by what is told of one day."""
    prices = [start for _, _, start in market[0]]
    told = []
    sales = [0] * len(market[0])
    for day in range(days):
        take = take_of(market, prices, day=day)
        told.append(take)
        if take is not None:
            sales[take] += 1
        prices = prices_behind(market, prices, day=day)
    return told, prices, sales


def by_hand(market, days):
    """The same, without the program."""
    prices = [start for _, _, start in market[0]]
    told = []
    for day in range(days):
        take = take_by_hand(market[1][day % len(market[1])], prices)
        told.append(take)
        prices = prices_by_hand(market[0], prices, take)
    return told, prices, [told.count(good) for good in range(len(market[0]))]


class RunTest(unittest.TestCase):
    def told(self, market, days):
        return takes(market, days), prices_at(market, days), sold(market, days)

    def test_a_run_reckoned_by_hand(self):
        market = ([(1, 2, 5), (3, 1, -4)], [[9, 7], [None, 3], None])
        # Prices: 5 -4, 3 -1, 1 2, -1 1, 0 0, -2 3, -4 2.
        self.assertEqual(takes(market, 6), [1, 1, None, 0, 1, None])
        told = [prices_at(market, days) for days in range(7)]
        self.assertEqual(told, [[5, -4], [3, -1], [1, 2], [-1, 1], [0, 0], [-2, 3], [-4, 2]])
        self.assertEqual([sold(market, days) for days in range(7)],
                         [[0, 0], [0, 1], [0, 2], [0, 2], [1, 2], [1, 3], [1, 3]])

    def test_no_day(self):
        for market in some_markets(20) + [PLAIN, NOBODY]:
            starts = [start for _, _, start in market[0]]
            self.assertEqual(self.told(market, 0), ([], starts, [0] * len(starts)))

    def test_one_day(self):
        for market in some_markets(40) + [PLAIN, NOBODY]:
            starts = [start for _, _, start in market[0]]
            take = take_of(market, starts)
            self.assertEqual(takes(market, 1), [take])
            self.assertEqual(prices_at(market, 1), prices_behind(market, starts))
            self.assertEqual(sold(market, 1), [int(good == take) for good in range(len(starts))])

    def test_against_days_gone_one_by_one(self):
        for market in some_markets(60) + [PLAIN, NOBODY]:
            for days in (2, 3, 5, 6, 7, 12, 61):
                self.assertEqual(self.told(market, days), day_by_day(market, days))
                self.assertEqual(self.told(market, days), by_hand(market, days))

    def test_all_days_told_whole(self):
        for market in some_markets(6, seed=3) + [PLAIN, NOBODY]:
            told = self.told(market, 4000)
            self.assertEqual(len(told[0]), 4000)
            self.assertEqual(told, day_by_day(market, 4000))
            self.assertEqual(told, by_hand(market, 4000))

    def test_a_longer_run_goes_on_from_a_shorter_one(self):
        for market in some_markets(20):
            whole = takes(market, 50)
            for days in (0, 1, 6, 49):
                self.assertEqual(takes(market, days), whole[:days])

    def test_prices_that_fall_far(self):
        self.assertEqual(prices_at(NOBODY, 4000), [-99 - 16000, 99 - 4000])
        self.assertEqual(takes(NOBODY, 4000), [None] * 4000)
        self.assertEqual(sold(NOBODY, 4000), [0, 0])
        goods = [(4, 4, 99)] * 4
        self.assertEqual(prices_at((goods, [[None] * 4]), 4000), [-15901] * 4)
        # One buyer for two goods: both fall far, and he takes them in turns.
        two = ([(1, 4, 0), (1, 4, 0)], [[0, 0]])
        self.assertEqual(takes(two, 4000), [0, 1] * 2000)
        self.assertEqual(prices_at(two, 4000), [2000 - 8000] * 2)
        self.assertEqual(sold(two, 4000), [2000, 2000])

    def test_prices_that_stay(self):
        market = ([(1, 1, 0)], [[0]])
        self.assertEqual(takes(market, 4000), [0, None] * 2000)
        self.assertEqual(prices_at(market, 4000), [0])
        self.assertEqual(prices_at(market, 3999), [1])
        self.assertEqual(sold(market, 3999), [2000])

    def test_kinds(self):
        self.assertEqual(kinds_of(takes(PLAIN, 4)), kinds_of([1, 1, None, 0]))
        self.assertEqual(kinds_of(prices_at(PLAIN, 5)), kinds_of([-2, 3]))
        self.assertEqual(kinds_of(sold(PLAIN, 4)), kinds_of([1, 2]))


class RefusalsTest(unittest.TestCase):
    def test_days_beyond(self):
        for function in FUNCTIONS:
            self.assertIsInstance(refusal(function, PLAIN, 4000), tuple)
            self.assertIsInstance(refusal(function, PLAIN, 0), tuple)
            for days in (4001, 4002, 5000, HUGE, -1, -2, -4000, -HUGE):
                self.assertIs(refusal(function, PLAIN, days), NoDay)

    def test_days_of_other_kinds(self):
        for function in FUNCTIONS:
            for thing in not_whole():
                self.assertIs(refusal(function, PLAIN, thing), NoDay)

    def test_no_market(self):
        for function in FUNCTIONS:
            for thing in things_of_other_kinds():
                self.assertIs(refusal(function, thing, 3), NoMarket)
            for thing in broken_markets(PLAIN):
                self.assertIs(refusal(function, thing, 3), NoMarket)
                self.assertIs(refusal(function, thing, 0), NoMarket)

    def test_no_market_ahead_of_no_day(self):
        for function in FUNCTIONS:
            for market in (None, ([], []), turned(PLAIN), ([(1, 1, 100)], [[0]])):
                for days in (-1, 4001, None, True, "3"):
                    self.assertIs(refusal(function, market, days), NoMarket)


class ArgumentsTest(unittest.TestCase):
    def test_by_name_and_in_any_order(self):
        for function in FUNCTIONS:
            told = function(PLAIN, 5)
            self.assertEqual(function(PLAIN, days=5), told)
            self.assertEqual(function(days=5, market=PLAIN), told)

    def test_nothing_handed_in_is_changed(self):
        for market in some_markets(20) + [PLAIN]:
            kept = copy.deepcopy(market)
            for function in FUNCTIONS:
                function(market, 30)
            self.assertEqual(market, kept)

    def test_what_is_told_is_the_askers_own(self):
        market = copy.deepcopy(PLAIN)
        handed = [id(inner) for inner in lists_in(market)]
        for function in FUNCTIONS:
            for days in (0, 1, 9):
                first = function(market, days)
                kept = list(first)
                self.assertIs(type(first), list)
                self.assertNotIn(id(first), handed)
                second = function(market, days)
                self.assertIsNot(first, second)
                first.append("changed")
                first[0] = "changed"
                self.assertEqual(second, kept)
                self.assertEqual(function(market, days), kept)
                self.assertEqual(market, PLAIN)

    def test_the_same_asked_again(self):
        for market in some_markets(20):
            for function in FUNCTIONS:
                self.assertEqual(function(market, 40), function(market, 40))

    def test_a_market_changed_by_the_asker_is_another_one(self):
        market = copy.deepcopy(PLAIN)
        takes(market, 6)
        market[1].clear()
        market[1].append(None)
        self.assertEqual(takes(market, 3), [None] * 3)


if __name__ == "__main__":
    unittest.main()
