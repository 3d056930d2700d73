"""Points 2, 3 and 9: prices by sales, the rests of days, and the sales that lead to prices."""

import copy
import unittest
from random import Random

from samples import (
    HUGE, NOBODY, PLAIN, assert_own, broken_markets, kinds_of, not_whole, refusal, some_markets,
    things_of_other_kinds, told_in_all_ways, turned,
)
from soldrises.errors import NoDay, NoMarket, NoPrices, NoSales
from soldrises.markets import sums
from soldrises.rests import prices_by, rests_at, sales_to
from soldrises.runs import prices_at, sold

FAR = 10 ** 15
# All sums that there are, with starts of all kinds.
ALL_SUMS = [([(up, down, start)], [None]) for up in (1, 2, 3, 4) for down in (1, 2, 3, 4) for start in (-99, -1, 0, 50)]


def least_rest(number, other):
    """The least number from 0 on that differs by times of the other one, as point 3 says it."""
    return next(rest for rest in range(other) if (number - rest) % other == 0)


class PricesByTest(unittest.TestCase):
    def test_reckoned_by_hand(self):
        self.assertEqual(kinds_of(prices_by(PLAIN, 6, [1, 3])), kinds_of([-4, 2]))
        self.assertEqual(prices_by(PLAIN, 6, [0, 0]), [-7, -10])
        self.assertEqual(prices_by(PLAIN, 6, [6, 6]), [11, 14])
        self.assertEqual(prices_by(PLAIN, 0, [0, 0]), [5, -4])

    def test_of_what_was_sold_they_are_the_prices_of_the_run(self):
        for market in some_markets(60) + [PLAIN, NOBODY]:
            for days in (0, 1, 2, 5, 6, 29, 300):
                self.assertEqual(prices_by(market, days, sold(market, days)), prices_at(market, days))
        for market in (PLAIN, NOBODY):
            self.assertEqual(prices_by(market, 4000, sold(market, 4000)), prices_at(market, 4000))

    def test_each_good_by_itself(self):
        goods = [(1, 2, 0), (4, 3, 10), (2, 2, -10), (1, 1, 99)]
        self.assertEqual(prices_by((goods, [None]), 10, [0, 1, 5, 10]), [-20, -13, -10, 109])

    def test_more_than_were_ever_sold(self):
        # Whether the days could sell so many together is not asked.
        self.assertEqual(prices_by(NOBODY, 3, [3, 3]), [-96, 111])

    def test_days_at_their_bounds(self):
        self.assertEqual(prices_by(PLAIN, 4000, [4000, 0]), [5 + 4000, -4 - 4000])
        self.assertEqual(prices_by(PLAIN, 0, [0, 0]), [5, -4])
        for days in [4001, 5000, FAR, HUGE, -1, -4000, -HUGE] + not_whole():
            self.assertIs(refusal(prices_by, PLAIN, days, [0, 0]), NoDay, days)

    def test_sales_at_their_bounds(self):
        for days in (0, 1, 7, 4000):
            for sales in ([0, 0], [days, 0], [0, days], [days, days]):
                self.assertIsInstance(refusal(prices_by, PLAIN, days, sales), tuple)
            for number in (-1, days + 1, HUGE, -HUGE):
                self.assertIs(refusal(prices_by, PLAIN, days, [number, 0]), NoSales)
                self.assertIs(refusal(prices_by, PLAIN, days, [0, number]), NoSales)

    def test_no_sales(self):
        for sales in ([], [0], [0, 0, 0], (0, 0), {0: 0, 1: 0}, "00", b"00", 0, 1, [[0, 0]], [[0], [0]], [0, 0] * 200):
            self.assertIs(refusal(prices_by, PLAIN, 5, sales), NoSales, sales)
        for thing in things_of_other_kinds():
            for sales in (thing, [thing, 0], [0, thing]):
                self.assertIs(refusal(prices_by, PLAIN, 5, sales), NoSales, sales)

    def test_order_of_refusals(self):
        for days in (-1, 4001, True, None):
            for sales in ([0], [0, -1], None, [True, True]):
                self.assertIs(refusal(prices_by, PLAIN, days, sales), NoDay)
                self.assertIs(refusal(prices_by, turned(PLAIN), days, sales), NoMarket)
        self.assertIs(refusal(prices_by, None, 5, None), NoMarket)


class RestsAtTest(unittest.TestCase):
    def test_reckoned_by_hand(self):
        told = [rests_at(PLAIN, days) for days in range(5)]
        self.assertEqual(kinds_of(told), kinds_of([[2, 0], [0, 3], [1, 2], [2, 1], [0, 0]]))

    def test_rests_are_the_least_from_nought_on(self):
        for market in ALL_SUMS:
            for days in (0, 1, 2, 3, 4, 50, 51):
                price = market[0][0][2] - market[0][0][1] * days
                self.assertEqual(rests_at(market, days), [least_rest(price, sums(market)[0])])

    def test_rests_of_a_run(self):
        for market in some_markets(40) + [PLAIN, NOBODY]:
            for days in (0, 1, 2, 7, 60):
                rests = [price % by for price, by in zip(prices_at(market, days), sums(market))]
                self.assertEqual(rests_at(market, days), rests)

    def test_whatever_is_sold(self):
        for market in some_markets(40):
            other = (market[0], [None])
            for days in (0, 3, 4000, FAR):
                self.assertEqual(rests_at(market, days), rests_at(other, days))
        for first in (0, 5, 9):
            for second in (0, 2, 9):
                prices = prices_by(PLAIN, 9, [first, second])
                self.assertEqual(rests_at(PLAIN, 9), [prices[0] % 3, prices[1] % 4])

    def test_far_days(self):
        for market in ALL_SUMS:
            by = sums(market)[0]
            for days in (4000, 4001, 10 ** 6, FAR - 1, FAR):
                self.assertEqual(rests_at(market, days), rests_at(market, days % by))

    def test_days_at_their_bounds(self):
        self.assertEqual(rests_at(PLAIN, 0), [2, 0])
        self.assertEqual(rests_at(PLAIN, FAR), [(5 - 2 * FAR) % 3, (-4 - FAR) % 4])
        for days in [FAR + 1, FAR + 12, HUGE, -1, -12, -FAR, -HUGE] + not_whole():
            self.assertIs(refusal(rests_at, PLAIN, days), NoDay, days)

    def test_no_market_ahead_of_no_day(self):
        for days in (-1, FAR + 1, True, None):
            self.assertIs(refusal(rests_at, turned(PLAIN), days), NoMarket)


class SalesToTest(unittest.TestCase):
    def test_reckoned_by_hand(self):
        self.assertEqual(kinds_of(sales_to(PLAIN, 6, [-4, 2])), kinds_of([1, 3]))
        self.assertEqual(sales_to(PLAIN, 0, [5, -4]), [0, 0])

    def test_back_from_prices_by(self):
        chance = Random(2)
        for market in some_markets(60) + [PLAIN, NOBODY]:
            for days in (0, 1, 2, 6, 77, 4000):
                sales = [chance.randint(0, days) for _ in market[0]]
                for told in (sales, [0] * len(sales), [days] * len(sales)):
                    self.assertEqual(sales_to(market, days, prices_by(market, days, told)), told)

    def test_what_a_run_sold(self):
        for market in some_markets(40) + [PLAIN, NOBODY]:
            for days in (0, 1, 5, 100, 4000):
                self.assertEqual(sales_to(market, days, prices_at(market, days)), sold(market, days))

    def test_none_where_a_rest_is_another(self):
        for market in some_markets(40) + [PLAIN]:
            prices = prices_by(market, 9, [4] * len(market[0]))
            for good, by in enumerate(sums(market)):
                for more in range(1, by):
                    for sign in (1, -1):
                        other = list(prices)
                        other[good] += sign * more
                        self.assertIs(sales_to(market, 9, other), None)
                other = list(prices)
                other[good] += by
                self.assertEqual(sales_to(market, 9, other), [4 + (at == good) for at in range(len(prices))])

    def test_none_where_a_number_is_below_nought_or_above_the_days(self):
        for market in some_markets(40) + [PLAIN]:
            many = len(market[0])
            for days in (0, 1, 9, 4000):
                for good, by in enumerate(sums(market)):
                    for sales, more in (([0] * many, -by), ([days] * many, by)):
                        prices = prices_by(market, days, sales)
                        self.assertEqual(sales_to(market, days, prices), sales)
                        prices[good] += more
                        self.assertIs(sales_to(market, days, prices), None)

    def test_all_prices_near_by(self):
        for market in ([(2, 3, 5)], [[0]]), ([(4, 1, -7)], [None]), ([(1, 1, 0)], [None]):
            for days in (0, 1, 4):
                reached = {prices_by(market, days, [number])[0]: [number] for number in range(days + 1)}
                for price in range(-40, 40):
                    self.assertEqual(sales_to(market, days, [price]), reached.get(price))

    def test_prices_at_a_million(self):
        for price in (-1000000, 1000000):
            for days in (0, 1, 4000):
                self.assertIs(sales_to(PLAIN, days, [price, -4]), None)
                self.assertIs(sales_to(PLAIN, days, [5, price]), None)
                self.assertIs(sales_to(PLAIN, days, [price, price]), None)
        for price in (-1000001, 1000001, HUGE, -HUGE):
            self.assertIs(refusal(sales_to, PLAIN, 3, [price, 0]), NoPrices)
            self.assertIs(refusal(sales_to, PLAIN, 3, [0, price]), NoPrices)

    def test_no_prices(self):
        for prices in ([], [0], [0, 0, 0], (0, 0), {0: 0, 1: 0}, "00", b"00", 0, [[0], [0]], [[0, 0]]):
            self.assertIs(refusal(sales_to, PLAIN, 3, prices), NoPrices, prices)
        for thing in things_of_other_kinds():
            for prices in (thing, [thing, 0], [0, thing]):
                self.assertIs(refusal(sales_to, PLAIN, 3, prices), NoPrices, prices)

    def test_days_at_their_bounds(self):
        self.assertEqual(sales_to(PLAIN, 4000, prices_at(PLAIN, 4000)), sold(PLAIN, 4000))
        for days in [4001, 5000, FAR, HUGE, -1, -HUGE] + not_whole():
            self.assertIs(refusal(sales_to, PLAIN, days, [5, -4]), NoDay, days)

    def test_order_of_refusals(self):
        for days in (-1, 4001, True, None):
            for prices in ([0], [0, 1000001], None, [True, False]):
                self.assertIs(refusal(sales_to, PLAIN, days, prices), NoPrices)
                self.assertIs(refusal(sales_to, turned(PLAIN), days, prices), NoMarket)
            self.assertIs(refusal(sales_to, PLAIN, days, [5, -3]), NoDay)
        self.assertIs(refusal(sales_to, None, 5, None), NoMarket)


class ArgumentsTest(unittest.TestCase):
    asked = (
        (prices_by, {"market": PLAIN, "days": 6, "sales": [1, 3]}),
        (rests_at, {"market": PLAIN, "days": 6}),
        (sales_to, {"market": PLAIN, "days": 6, "prices": [-4, 2]}),
    )

    def test_no_market(self):
        for function, named in self.asked:
            others = list(named.values())[1:]
            for thing in list(broken_markets(PLAIN)) + things_of_other_kinds() + [0, turned(PLAIN)]:
                self.assertIs(refusal(function, thing, *others), NoMarket)

    def test_by_place_and_by_name(self):
        for function, named in self.asked:
            told = function(*named.values())
            for other in told_in_all_ways(function, named):
                self.assertEqual(other, told)

    def test_nothing_handed_in_is_changed(self):
        for function, named in self.asked:
            handed = copy.deepcopy(named)
            function(**handed)
            self.assertEqual(handed, named)

    def test_what_is_told_is_the_askers_own(self):
        for function, named in self.asked:
            assert_own(self, function, **copy.deepcopy(named))
            assert_own(self, function, *copy.deepcopy(list(named.values())))

    def test_a_refusal_leaves_nothing_behind(self):
        for function, named in self.asked:
            told = function(**named)
            refusal(function, *[[True]] * len(named))
            refusal(function, PLAIN, *[[True]] * (len(named) - 1))
            self.assertEqual(function(**named), told)


if __name__ == "__main__":
    unittest.main()
