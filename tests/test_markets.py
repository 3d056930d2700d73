"""Points 2, 3, 5 and 6: markets, takes and the prices behind a day."""

import copy
import unittest
from fractions import Fraction

from samples import (
    HUGE, PLAIN, broken_markets, kinds_of, lists_in, not_whole, prices_by_hand, refusal, some_markets, take_by_hand,
    things_of_other_kinds, turned,
)
from soldrises.errors import NoDay, NoMarket, NoPrices
from soldrises.markets import is_market, prices_behind, shares, sums, take_of


def one_good(up=1, down=1, start=0):
    return ([(up, down, start)], [[0]])


def one_worth(worth):
    return ([(1, 1, 0)], [[worth]])


def wide(goods, days):
    """A market of so many goods and days."""
    return ([(1, 1, 0)] * goods, [[0] * goods for _ in range(days)])


class IsMarketTest(unittest.TestCase):
    def assert_market(self, market):
        self.assertIs(is_market(market), True, market)
        self.assertEqual(len(sums(market)), len(market[0]))

    def assert_none(self, thing):
        self.assertIs(is_market(thing), False, thing)
        for function in (sums, shares):
            self.assertIs(refusal(function, thing), NoMarket, thing)
        for function in (take_of, prices_behind):
            self.assertIs(refusal(function, thing, [0]), NoMarket, thing)
            self.assertIs(refusal(function, thing, [0, 0], day=0), NoMarket, thing)

    def test_plain(self):
        self.assert_market(PLAIN)
        for market in some_markets(50):
            self.assert_market(market)

    def test_steps_at_their_bounds(self):
        for step in (1, 2, 3, 4):
            self.assert_market(one_good(up=step))
            self.assert_market(one_good(down=step))
        for step in (0, 5, -1, HUGE, -HUGE):
            self.assert_none(one_good(up=step))
            self.assert_none(one_good(down=step))

    def test_starts_at_their_bounds(self):
        for start in (-99, 0, 99):
            self.assert_market(one_good(start=start))
        for start in (-100, 100, HUGE, -HUGE):
            self.assert_none(one_good(start=start))

    def test_worths_at_their_bounds(self):
        for worth in (-99, 0, 99, None):
            self.assert_market(one_worth(worth))
        for worth in (-100, 100, HUGE, -HUGE):
            self.assert_none(one_worth(worth))

    def test_numbers_of_goods(self):
        for many in (1, 2, 3, 4):
            self.assert_market(wide(many, 2))
        for many in (0, 5, 6, 400):
            self.assert_none(wide(many, 2))
        self.assert_none(([], [None]))

    def test_numbers_of_days(self):
        for many in (1, 2, 3, 4, 5, 6):
            self.assert_market(wide(2, many))
        for many in (0, 7, 8, 400):
            self.assert_none(wide(2, many))

    def test_nobody_and_nothing_wanted(self):
        self.assert_market(([(1, 1, 0)], [None]))
        self.assert_market(([(1, 1, 0)], [None] * 6))
        self.assert_market(([(1, 1, 0)] * 3, [[None] * 3]))
        self.assert_none(([(1, 1, 0)], [None] * 7))

    def test_a_buyer_of_too_few_or_too_many_worths(self):
        goods = [(1, 1, 0), (2, 2, 2)]
        for buyer in ([], [0], [0, 0, 0], [None], [None, None, None]):
            self.assert_none((goods, [buyer]))
            self.assert_none((goods, [[0, 0], buyer]))
            self.assert_none((goods, [buyer, [0, 0]]))

    def test_a_good_of_too_few_or_too_many_things(self):
        for good in ((), (1,), (1, 1), (1, 1, 0, 0)):
            self.assert_none(([good], [[0]]))
            self.assert_none(([(1, 1, 0), good], [[0, 0]]))

    def test_a_market_of_too_few_or_too_many_things(self):
        goods, days = PLAIN
        for thing in ((), (goods,), (goods, days, days), (goods, days, None), (days, goods), [goods, days]):
            self.assert_none(thing)

    def test_lists_for_tuples_and_tuples_for_lists(self):
        goods, days = PLAIN
        for thing in (
            turned(PLAIN), (turned(goods), days), (goods, turned(days)), ([turned(goods[0]), goods[1]], days),
            (goods, [turned(days[0]), None]), (goods, [None, turned(days[0])]),
        ):
            self.assert_none(thing)

    def test_truths_are_no_whole_numbers(self):
        for truth in (True, False):
            self.assert_none(one_good(up=truth))
            self.assert_none(one_good(down=truth))
            self.assert_none(one_good(start=truth))
            self.assert_none(one_worth(truth))

    def test_things_of_other_kinds(self):
        for thing in things_of_other_kinds() + [0, 1, -1, HUGE]:
            self.assert_none(thing)

    def test_things_of_other_kinds_within(self):
        for market in (PLAIN, ([(1, 1, 0)] * 2, [[None, 0]]), ([(4, 4, 99)] * 4, [[-99] * 4, None, [None] * 4])):
            for thing in broken_markets(market):
                self.assert_none(thing)


class SumsAndSharesTest(unittest.TestCase):
    def test_sums(self):
        self.assertEqual(sums(PLAIN), [3, 4])
        self.assertEqual(sums(([(1, 1, 9), (4, 4, 9), (1, 4, 0), (4, 1, -9)], [None])), [2, 8, 5, 5])

    def test_shares(self):
        self.assertEqual(kinds_of(shares(PLAIN)), kinds_of([(2, 3), (1, 4)]))
        self.assertEqual(kinds_of(shares(one_good(3, 3))), kinds_of([(1, 2)]))

    def test_shares_are_in_lowest_terms(self):
        for up in (1, 2, 3, 4):
            for down in (1, 2, 3, 4):
                share = Fraction(down, up + down)
                told = shares(one_good(up, down))
                self.assertEqual(kinds_of(told), kinds_of([(share.numerator, share.denominator)]))
                self.assertEqual(sums(one_good(up, down)), [up + down])

    def test_they_do_not_hang_on_the_round(self):
        for market in some_markets(20):
            other = (market[0], [None])
            self.assertEqual(sums(market), sums(other))
            self.assertEqual(shares(market), shares(other))


class TakeTest(unittest.TestCase):
    def take(self, buyer, prices):
        return take_of(([(1, 1, 0)] * len(prices), [buyer]), prices)

    def test_the_greatest_gain(self):
        self.assertEqual(self.take([5, 9, 7], [0, 0, 0]), 1)
        self.assertEqual(self.take([5, 9, 7], [0, 5, 0]), 2)
        self.assertEqual(self.take([5, 9, 7], [0, 5, 3]), 0)
        self.assertEqual(self.take([-5, -9, -7], [-10, -15, -11]), 1)

    def test_of_several_the_first(self):
        self.assertEqual(self.take([4, 4, 4], [1, 1, 1]), 0)
        self.assertEqual(self.take([3, 4, 5], [1, 1, 2]), 1)
        self.assertEqual(self.take([None, 4, 4, 9], [0, 1, 1, 6]), 1)
        self.assertEqual(self.take([0, 0], [0, 0]), 0)

    def test_a_gain_of_just_nought_is_taken(self):
        self.assertEqual(self.take([3], [3]), 0)
        self.assertEqual(self.take([-3], [-3]), 0)
        self.assertEqual(self.take([2, 3], [3, 3]), 1)

    def test_a_gain_below_nought_is_not(self):
        self.assertIsNone(self.take([3], [4]))
        self.assertIsNone(self.take([-3], [-2]))
        self.assertIsNone(self.take([2, 3], [3, 4]))

    def test_unwanted_goods(self):
        self.assertEqual(self.take([None, 1], [-90, 0]), 1)
        self.assertEqual(self.take([1, None], [0, -90]), 0)
        self.assertIsNone(self.take([None, 1], [-90, 2]))
        self.assertIsNone(self.take([None, None], [-90, -90]))
        self.assertEqual(self.take([None, -5], [0, -5]), 1)

    def test_nobody(self):
        self.assertIsNone(self.take(None, [-1000000, -1000000]))

    def test_take_is_a_number_or_none(self):
        self.assertEqual(kinds_of(self.take([1, 1], [1, 2])), kinds_of(0))
        self.assertEqual(kinds_of(self.take([1, 1], [2, 1])), kinds_of(1))

    def test_days_of_the_round_and_beyond(self):
        market = ([(1, 1, 0)] * 3, [[1, None, None], None, [None, None, 1], [None, 1, None]])
        told = [take_of(market, [0, 0, 0], day=day) for day in range(12)]
        self.assertEqual(told, [0, None, 2, 1] * 3)
        for day in (400, 10 ** 15, 10 ** 18 - 4):
            self.assertEqual([take_of(market, [0, 0, 0], day=day + k) for k in range(4)], [0, None, 2, 1])

    def test_day_left_out_is_the_first(self):
        market = ([(1, 1, 0)] * 2, [[None, 1], [1, None]])
        self.assertEqual(take_of(market, [0, 0]), 1)
        self.assertEqual(prices_behind(market, [0, 0]), [-1, 1])

    def test_against_another_way(self):
        for market in some_markets(120):
            for shift in (-30, -5, 0, 5, 30):
                prices = [start + shift for _, _, start in market[0]]
                for day in range(8):
                    buyer = market[1][day % len(market[1])]
                    take = take_by_hand(buyer, prices)
                    self.assertEqual(take_of(market, prices, day=day), take)
                    behind = prices_by_hand(market[0], prices, take)
                    self.assertEqual(prices_behind(market, prices, day=day), behind)


class PricesBehindTest(unittest.TestCase):
    def test_the_taken_rises_and_the_others_fall(self):
        goods = [(1, 2, 0), (3, 4, 0), (2, 1, 0)]
        self.assertEqual(prices_behind((goods, [[9, 0, 0]]), [5, 5, 5]), [6, 1, 4])
        self.assertEqual(prices_behind((goods, [[0, 9, 0]]), [5, 5, 5]), [3, 8, 4])
        self.assertEqual(prices_behind((goods, [[0, 0, 9]]), [5, 5, 5]), [3, 1, 7])

    def test_all_fall_where_none_is_taken(self):
        goods = [(1, 2, 0), (3, 4, 0)]
        for buyer in (None, [None, None], [4, 4], [None, 4]):
            self.assertEqual(prices_behind((goods, [buyer]), [5, 5]), [3, 1])

    def test_the_starts_do_not_matter(self):
        self.assertEqual(prices_behind(one_good(2, 3, 99), [-7]), [-5])

    def test_of_the_day_asked(self):
        market = ([(1, 1, 0), (2, 2, 0)], [[None, 1], [1, None], None])
        told = [prices_behind(market, [0, 0], day=day) for day in range(6)]
        self.assertEqual(told, [[-1, 2], [1, -2], [-1, -2]] * 2)

    def test_prices_told_beyond_a_million(self):
        goods = [(4, 3, 0), (1, 4, 0)]
        self.assertEqual(prices_behind((goods, [None]), [-1000000, -1000000]), [-1000003, -1000004])
        self.assertEqual(prices_behind((goods, [[99, None]]), [-1000000, 1000000]), [-999996, 999996])
        # No buyer pays a million, so none rises beyond it.
        self.assertEqual(prices_behind((goods, [[99, 99]]), [1000000, 1000000]), [999997, 999996])


class RefusalsTest(unittest.TestCase):
    functions = (take_of, prices_behind)

    def test_prices_at_their_bounds(self):
        for function in self.functions:
            for price in (-1000000, 1000000):
                self.assertIsInstance(refusal(function, PLAIN, [price, 0]), tuple)
                self.assertIsInstance(refusal(function, PLAIN, [0, price]), tuple)
            for price in (-1000001, 1000001, HUGE, -HUGE):
                self.assertIs(refusal(function, PLAIN, [price, 0]), NoPrices)
                self.assertIs(refusal(function, PLAIN, [0, price]), NoPrices)

    def test_prices_of_other_numbers_and_kinds(self):
        for function in self.functions:
            for prices in ([], [0], [0, 0, 0], (0, 0), {0: 0, 1: 0}, "00", b"00", 0, [[0], [0]], [[0, 0]], HUGE):
                self.assertIs(refusal(function, PLAIN, prices), NoPrices)
            for thing in things_of_other_kinds():
                self.assertIs(refusal(function, PLAIN, thing), NoPrices)
            for thing in not_whole():
                self.assertIs(refusal(function, PLAIN, [thing, 0]), NoPrices)
                self.assertIs(refusal(function, PLAIN, [0, thing]), NoPrices)

    def test_days_that_are_none(self):
        for function in self.functions:
            for day in not_whole() + [-1, -2, -HUGE]:
                self.assertIs(refusal(function, PLAIN, [0, 0], day=day), NoDay)

    def test_the_order_of_refusals(self):
        for function in self.functions:
            for market in (None, ([], []), turned(PLAIN), ([(0, 1, 0)], [[0]])):
                self.assertIs(refusal(function, market, None, day=None), NoMarket)
                self.assertIs(refusal(function, market, [0, 0], day=-1), NoMarket)
                self.assertIs(refusal(function, market, [True]), NoMarket)
            for prices in (None, [0], [True, 0], [1000001, 0]):
                self.assertIs(refusal(function, PLAIN, prices, day=None), NoPrices)
                self.assertIs(refusal(function, PLAIN, prices, day=-1), NoPrices)


class ArgumentsTest(unittest.TestCase):
    def test_by_name_and_in_any_order(self):
        self.assertIs(is_market(thing=PLAIN), True)
        self.assertEqual(sums(market=PLAIN), sums(PLAIN))
        self.assertEqual(shares(market=PLAIN), shares(PLAIN))
        for function in (take_of, prices_behind):
            told = function(PLAIN, [0, 0], day=1)
            self.assertEqual(function(PLAIN, day=1, prices=[0, 0]), told)
            self.assertEqual(function(day=1, prices=[0, 0], market=PLAIN), told)
            self.assertEqual(function(prices=[0, 0], market=PLAIN), function(PLAIN, [0, 0]))

    def test_day_by_name_alone(self):
        for function in (take_of, prices_behind):
            with self.assertRaises(TypeError):
                function(PLAIN, [0, 0], 1)

    def test_nothing_handed_in_is_changed(self):
        for market in some_markets(20) + [PLAIN]:
            prices = [3] * len(market[0])
            kept = copy.deepcopy((market, prices))
            is_market(market)
            sums(market)
            shares(market)
            for day in range(7):
                take_of(market, prices, day=day)
                prices_behind(market, prices, day=day)
            self.assertEqual((market, prices), kept)

    def test_what_is_told_is_the_askers_own(self):
        market = copy.deepcopy(PLAIN)
        prices = [0, 0]
        for function, args in (
            (sums, (market,)), (shares, (market,)), (prices_behind, (market, prices)),
        ):
            first = function(*args)
            kept = copy.deepcopy(first)
            handed = [id(inner) for inner in lists_in(list(args))]
            self.assertFalse([inner for inner in lists_in(first) if id(inner) in handed])
            second = function(*args)
            self.assertIsNot(first, second)
            first.clear()
            first.append("changed")
            self.assertEqual(second, kept)
            self.assertEqual(function(*args), kept)
            self.assertEqual(market, PLAIN)
            self.assertEqual(prices, [0, 0])

    def test_the_same_asked_again(self):
        for market in some_markets(20):
            prices = [start for _, _, start in market[0]]
            told = [(sums(market), shares(market), take_of(market, prices), prices_behind(market, prices))
                    for _ in range(3)]
            self.assertEqual(told[1:], told[:-1])

    def test_a_refusal_leaves_nothing_behind(self):
        told = prices_behind(PLAIN, [0, 0])
        refusal(prices_behind, PLAIN, [0, True])
        refusal(prices_behind, PLAIN, [0, 0], day=-1)
        self.assertEqual(prices_behind(PLAIN, [0, 0]), told)


if __name__ == "__main__":
    unittest.main()
