"""Points 2, 10 and 11: lists of prices of one rest, in order, how far they are, where they meet and what is between."""

import copy
import itertools
import unittest
from random import Random

from samples import (
    HUGE, NOBODY, PLAIN, assert_own, broken_markets, kinds_of, not_whole, prices_by_hand, prices_like, refusal,
    some_markets, starts_of, take_by_hand, things_of_other_kinds, told_in_all_ways, turned,
)
from soldrises.errors import NoDay, NoMarket, NoOrder, NoPrices, NoRest, TooMany
from soldrises.markets import prices_behind, sums
from soldrises.runs import prices_at
from soldrises.starts import are_of_one_rest, between, how_far, meets, stand_in_order

OF_TWO = (are_of_one_rest, stand_in_order, how_far, meets, between)
OF_ONE_REST = (how_far, meets, between)
# One good, wanted each day by one who pays nought, and its sum is 2.
ONE = ([(1, 1, 0)], [[0]])
# The same for nobody: what differs stays so.
NEVER = ([(1, 1, 0)], [None])
FOUR = ([(1, 2, 0), (2, 2, 0), (1, 1, 0), (4, 4, 0)], [[3, 1, None, 2], None, [0, 0, 0, 0]])


def some_pairs(many, seed):
    """Markets, each with two lists of prices of one rest."""
    chance = Random(seed)
    for market in some_markets(many, seed=seed):
        one = prices_like(chance, market, starts_of(market), 3)
        yield market, one, prices_like(chance, market, one, 3)


def some_in_order(many, seed):
    """Markets, each with two lists of prices of one rest that stand in order."""
    for market, one, other in some_pairs(many, seed):
        low = [min(pair) for pair in zip(one, other)]
        yield market, low, [max(pair) for pair in zip(one, other)]


def met_by_hand(market, one, other, day, bound):
    """Where two lists meet, gone without the program."""
    for gone in range(bound + 1):
        if one == other:
            return gone
        buyer = market[1][(day + gone) % len(market[1])]
        one = prices_by_hand(market[0], one, take_by_hand(buyer, one))
        other = prices_by_hand(market[0], other, take_by_hand(buyer, other))
    return None


def behind(market, prices, day, days):
    """The prices so many days on from a day."""
    for gone in range(days):
        prices = prices_behind(market, prices, day=day + gone)
    return prices


class OneRestTest(unittest.TestCase):
    def test_reckoned_by_hand(self):
        # The sums are 3 and 4.
        for one, other, told in (
            ([5, -4], [5, -4], True), ([5, -4], [8, -4], True), ([5, -4], [-1, 4], True), ([5, -4], [-4, 0], True),
            ([5, -4], [6, -4], False), ([5, -4], [5, -2], False), ([5, -4], [8, -3], False), ([5, -4], [9, 0], False),
        ):
            self.assertIs(are_of_one_rest(PLAIN, one, other), told)
            self.assertIs(are_of_one_rest(PLAIN, other, one), told)

    def test_each_rest_below_and_above_nought(self):
        for up, down in itertools.product((1, 2, 3, 4), repeat=2):
            market = ([(up, down, 0)], [None])
            times = [step * (up + down) for step in range(-20, 21)]
            for one, other in itertools.product(range(-9, 10), repeat=2):
                self.assertIs(are_of_one_rest(market, [one], [other]), one - other in times)

    def test_at_each_good(self):
        for at, by in enumerate((3, 4, 2, 8)):
            for more in range(-16, 17):
                other = [0, 0, 0, 0]
                other[at] = more
                self.assertIs(are_of_one_rest(FOUR, [0, 0, 0, 0], other), more % by == 0)

    def test_prices_at_their_bounds(self):
        self.assertIs(are_of_one_rest(ONE, [-1000000], [1000000]), True)
        self.assertIs(are_of_one_rest(ONE, [-1000000], [999999]), False)

    def test_runs_stay_of_one_rest(self):
        for market, one, other in some_pairs(40, 3):
            for day in range(12):
                self.assertIs(are_of_one_rest(market, one, other), True)
                one, other = prices_behind(market, one, day=day), prices_behind(market, other, day=day)


class InOrderTest(unittest.TestCase):
    def test_reckoned_by_hand(self):
        for one, other, told in (
            ([5, -4], [5, -4], True), ([5, -4], [5, -3], True), ([5, -4], [6, -4], True), ([-9, -9], [0, 1], True),
            ([5, -4], [4, -4], False), ([5, -4], [5, -5], False), ([5, -4], [4, 9], False), ([5, -4], [9, -5], False),
            ([-1000000, -1000000], [1000000, 1000000], True), ([1000000, 0], [-1000000, 0], False),
        ):
            self.assertIs(stand_in_order(PLAIN, one, other), told)

    def test_either_first(self):
        for market, one, other in some_pairs(80, 4):
            self.assertIs(stand_in_order(market, one, other), all(low <= high for low, high in zip(one, other)))
            both = stand_in_order(market, one, other) and stand_in_order(market, other, one)
            self.assertIs(both, one == other)

    def test_of_unlike_rests(self):
        self.assertIs(stand_in_order(ONE, [0], [1]), True)
        self.assertIs(stand_in_order(ONE, [1], [0]), False)

    def test_at_each_good(self):
        for at in range(4):
            other = [7, 7, 7, 7]
            other[at] = -1
            self.assertIs(stand_in_order(FOUR, [0] * 4, other), False)
            self.assertIs(stand_in_order(FOUR, [-1] * 4, other), True)

    def test_each_stays_so(self):
        for market, one, other in some_in_order(120, 5):
            for day in range(3, 20):
                self.assertIs(stand_in_order(market, one, other), True)
                one, other = prices_behind(market, one, day=day), prices_behind(market, other, day=day)


class HowFarTest(unittest.TestCase):
    def test_reckoned_by_hand(self):
        for one, other, told in (
            ([5, -4], [5, -4], 0), ([5, -4], [8, -4], 1), ([5, -4], [2, -4], 1), ([5, -4], [5, 4], 2),
            ([5, -4], [-1, 0], 3), ([5, -4], [8, -8], 2), ([2, 0], [-4, -12], 5),
        ):
            self.assertEqual(kinds_of(how_far(PLAIN, one, other)), kinds_of(told))
            self.assertEqual(how_far(PLAIN, other, one), told)

    def test_a_list_and_itself(self):
        for market, one, _ in some_pairs(20, 6):
            self.assertEqual(how_far(market, one, one), 0)
            self.assertEqual(how_far(market, one, list(one)), 0)

    def test_by_the_sums(self):
        chance = Random(8)
        for market, one, _ in some_pairs(60, 7):
            steps = [chance.randint(-9, 9) for _ in one]
            other = [price + step * by for price, step, by in zip(one, steps, sums(market))]
            self.assertEqual(how_far(market, one, other), sum(abs(step) for step in steps))
            self.assertEqual(how_far(market, other, one), sum(abs(step) for step in steps))

    def test_at_the_bounds(self):
        self.assertEqual(how_far(ONE, [-1000000], [1000000]), 1000000)
        self.assertEqual(how_far(FOUR, [-1000000, 0, 0, 1000000], [999998, 0, 0, -1000000]), 666666 + 250000)

    def test_never_farther_apart(self):
        for market, one, other in some_pairs(120, 9):
            far = how_far(market, one, other)
            for day in range(2, 20):
                one, other = prices_behind(market, one, day=day), prices_behind(market, other, day=day)
                self.assertLessEqual(how_far(market, one, other), far)
                far = how_far(market, one, other)


class MeetsTest(unittest.TestCase):
    def test_reckoned_by_hand(self):
        # 0, 1, 0, 1 and 4, 3, 2, 1; from below -4, -3, -2, -1, 0 and 0, 1, 0, 1, 0.
        self.assertEqual(kinds_of(meets(ONE, [0], [4])), kinds_of(3))
        self.assertEqual([meets(ONE, [0], [high]) for high in (0, 2, 4, 6)], [0, 1, 3, 5])
        self.assertEqual([meets(ONE, [low], [0]) for low in (0, -2, -4, -6)], [0, 2, 4, 6])

    def test_alike_from_the_first(self):
        for market, one, _ in some_pairs(30, 10):
            for bound in (0, 1, 4000):
                self.assertEqual(meets(market, one, list(one), bound=bound), 0)
                self.assertEqual(meets(market, one, one, day=3, bound=bound), 0)

    def test_at_the_bound_and_one_beyond_it(self):
        for many in (2, 4, 6, 20, 398, 400, 402, 3998, 4000):
            for low, high, days in (([0], [many], many - 1), ([-many], [0], many)):
                self.assertEqual(met_by_hand(ONE, low, high, 0, 4000), days)
                self.assertEqual(meets(ONE, low, high, bound=days), days)
                self.assertEqual(meets(ONE, high, low, bound=days), days)
                self.assertEqual(meets(ONE, low, high, bound=4000), days)
                self.assertIs(meets(ONE, low, high, bound=days - 1), None)
        self.assertIs(meets(ONE, [0], [4002], bound=4000), None)
        self.assertIs(meets(ONE, [-4002], [0], bound=4000), None)

    def test_the_bound_left_out(self):
        self.assertEqual(meets(ONE, [-400], [0]), 400)
        self.assertIs(meets(ONE, [0], [402]), None)
        self.assertEqual(meets(ONE, [0], [402], bound=401), 401)

    def test_the_bound_nought(self):
        self.assertEqual(meets(PLAIN, [5, -4], [5, -4], bound=0), 0)
        self.assertIs(meets(PLAIN, [5, -4], [8, -4], bound=0), None)
        self.assertIs(meets(ONE, [0], [2], bound=0), None)
        self.assertEqual(meets(ONE, [0], [2], bound=1), 1)

    def test_against_another_way(self):
        met = []
        for market, one, other in some_pairs(250, 11):
            for day in (0, 1, 4, 7):
                days = met_by_hand(market, one, other, day, 60)
                self.assertEqual(meets(market, one, other, day=day, bound=60), days)
                self.assertEqual(meets(market, other, one, day=day, bound=60), days)
                met.append(days)
        self.assertGreater(len([days for days in met if days is not None and days > 3]), 30)
        self.assertGreater(met.count(None), 30)

    def test_the_day_left_out_is_the_first(self):
        market = ([(1, 1, 0)], [[0], [50], [-50]])
        told = [meets(market, [0], [6], day=day) for day in range(6)]
        self.assertEqual(told, [met_by_hand(market, [0], [6], day, 400) for day in range(6)])
        self.assertGreater(len(set(told)), 1)
        self.assertEqual(meets(market, [0], [6]), told[0])

    def test_far_days(self):
        for market, one, other in some_pairs(40, 12):
            length = len(market[1])
            for day in (0, 1, 5):
                told = meets(market, one, other, day=day, bound=100)
                for far in (4001, 10 ** 6, 10 ** 15, 10 ** 17):
                    self.assertEqual(meets(market, one, other, day=day + far * length, bound=100), told)

    def test_runs_beyond_a_million(self):
        # Both fall below it, and the one is always above the other.
        self.assertIs(meets(NEVER, [-1000000], [-999998], bound=4000), None)
        # The first good's buyer comes at each day, the second good falls without end.
        market = ([(1, 1, 0), (1, 4, 0)], [[0, None]])
        for low in (-1000000, -999999):
            self.assertEqual(meets(market, [0, low], [40, low], bound=100), 39)
            self.assertIs(meets(market, [0, low], [40, low], bound=38), None)
            self.assertIs(meets(market, [0, low], [40, low + 5], bound=4000), None)
        self.assertIs(meets(ONE, [999998], [1000000], bound=50), None)

    def test_meeting_below_a_million(self):
        # Of two goods the one with the lower price is bought, every fourth day, until they differ alike.
        market = ([(1, 4, 0), (1, 4, 0)], [[50, 50], None, None, None])
        one, other = [-999990, -999990], [-999980, -1000000]
        self.assertEqual(met_by_hand(market, one, other, 0, 20), 9)
        self.assertEqual(behind(market, [price + 1000 for price in one], 0, 9), [-999016, -999021])
        self.assertEqual(meets(market, one, other), 9)
        self.assertEqual(meets(market, other, one, bound=9), 9)
        self.assertIs(meets(market, one, other, bound=8), None)
        self.assertEqual(meets(market, one, other, day=1), 12)

    def test_lists_that_do_not_stand_in_order(self):
        seen = 0
        for market, one, other in some_pairs(120, 13):
            if not stand_in_order(market, one, other) and not stand_in_order(market, other, one):
                days = met_by_hand(market, one, other, 2, 80)
                self.assertEqual(meets(market, one, other, day=2, bound=80), days)
                seen += days is not None
        self.assertGreater(seen, 5)

    def test_all_between_meet_then_too(self):
        seen = 0
        for market, one, other in some_in_order(300, 14):
            days = meets(market, one, other, day=1, bound=60)
            if days is None or refusal(between, market, one, other) is TooMany:
                continue
            met = behind(market, one, 1, days)
            for prices in between(market, one, other):
                self.assertEqual(behind(market, prices, 1, days), met)
                seen += 1
        self.assertGreater(seen, 100)

    def test_lists_of_a_run(self):
        for market in some_markets(20):
            one = prices_at(market, 30)
            self.assertEqual(meets(market, one, one, day=30), 0)

    def test_days_and_bounds_that_are_none(self):
        for thing in [-1, -400, -HUGE] + not_whole():
            self.assertIs(refusal(meets, ONE, [0], [2], day=thing), NoDay, thing)
            self.assertIs(refusal(meets, ONE, [0], [0], day=thing), NoDay, thing)
            self.assertIs(refusal(meets, ONE, [0], [2], bound=thing), NoDay, thing)
            self.assertIs(refusal(meets, ONE, [0], [0], bound=thing), NoDay, thing)
            self.assertIs(refusal(meets, ONE, [0], [2], day=thing, bound=thing), NoDay, thing)
        for bound in (4001, 4002, 10 ** 15, HUGE):
            self.assertIs(refusal(meets, ONE, [0], [2], bound=bound), NoDay)
            self.assertIs(refusal(meets, ONE, [0], [0], bound=bound), NoDay)
        self.assertEqual(refusal(meets, ONE, [0], [2], bound=4000), (1,))

    def test_day_and_bound_by_name_alone(self):
        for places in ((0,), (0, 400)):
            with self.assertRaises(TypeError):
                meets(ONE, [0], [2], *places)

    def test_order_of_refusals(self):
        for named in ({"day": -1}, {"bound": 4001}, {"day": True, "bound": None}):
            self.assertIs(refusal(meets, ONE, [0], [1], **named), NoRest)
            self.assertIs(refusal(meets, ONE, [0], [1000001], **named), NoPrices)
            self.assertIs(refusal(meets, None, [0], [1000001], **named), NoMarket)
            self.assertIs(refusal(meets, ONE, [2], [0], **named), NoDay)


class BetweenTest(unittest.TestCase):
    def test_reckoned_by_hand(self):
        self.assertEqual(kinds_of(between(PLAIN, [5, -4], [8, 4])),
                         kinds_of([[5, -4], [5, 0], [5, 4], [8, -4], [8, 0], [8, 4]]))
        self.assertEqual(between(ONE, [-3], [3]), [[-3], [-1], [1], [3]])

    def test_a_list_and_itself(self):
        for market, one, _ in some_pairs(20, 15):
            self.assertEqual(between(market, one, one), [one])
            told = between(market, one, list(one))
            self.assertEqual(told, [one])
            self.assertIsNot(told[0], one)

    def test_against_all_prices_looked_through(self):
        chance = Random(16)
        wides = set()
        for market in some_markets(60, seed=16):
            goods = market[0]
            one = starts_of(market)
            other = [price + chance.randint(0, 2) * by for price, by in zip(one, sums(market))]
            axes = [range(low, high + 1) for low, high in zip(one, other)]
            told = [list(prices) for prices in itertools.product(*axes) if are_of_one_rest(market, one, list(prices))]
            self.assertEqual(between(market, one, other), sorted(told))
            wides.add(len(goods))
        self.assertEqual(wides, {1, 2, 3, 4})

    def test_sorted_and_each_once(self):
        told = between(FOUR, [-3, -4, -2, -8], [3, 8, 4, 8])
        self.assertEqual(len(told), 3 * 4 * 4 * 3)
        self.assertEqual(told, sorted(told))
        self.assertEqual(len({tuple(prices) for prices in told}), len(told))
        self.assertEqual((told[0], told[-1]), ([-3, -4, -2, -8], [3, 8, 4, 8]))

    def test_three_hundred_and_one_more(self):
        self.assertEqual(between(ONE, [0], [598]), [[price] for price in range(0, 599, 2)])
        self.assertIs(refusal(between, ONE, [0], [600]), TooMany)
        self.assertIs(refusal(between, ONE, [-1000000], [1000000]), TooMany)
        # The sums are 3, 4, 2 and 8.
        for steps in ((4, 2, 3, 4), (299, 0, 0, 0), (0, 0, 0, 299), (4, 3, 4, 2), (1, 149, 0, 0)):
            other = [step * by for step, by in zip(steps, (3, 4, 2, 8))]
            self.assertEqual(len(between(FOUR, [0, 0, 0, 0], other)), 300)
        for steps in ((6, 42, 0, 0), (300, 0, 0, 0), (0, 0, 0, 300), (4, 3, 4, 3), (6, 0, 42, 0), (0, 1, 1, 75)):
            other = [step * by for step, by in zip(steps, (3, 4, 2, 8))]
            self.assertIs(refusal(between, FOUR, [0, 0, 0, 0], other), TooMany)
        low, high = [-999999] + [-1000000] * 3, [999999] + [1000000] * 3
        self.assertIs(refusal(between, FOUR, low, high), TooMany)

    def test_no_order(self):
        self.assertIs(refusal(between, ONE, [2], [0]), NoOrder)
        self.assertIs(refusal(between, PLAIN, [5, -4], [8, -8]), NoOrder)
        self.assertIs(refusal(between, PLAIN, [5, -4], [2, 0]), NoOrder)
        self.assertIs(refusal(between, ONE, [1000000], [-1000000]), NoOrder)
        for market, one, other in some_pairs(80, 17):
            if not stand_in_order(market, one, other):
                self.assertIs(refusal(between, market, one, other), NoOrder)

    def test_order_of_refusals(self):
        # No rest ahead of no order, and that ahead of too many.
        self.assertIs(refusal(between, PLAIN, [5, -4], [4, -4]), NoRest)
        self.assertIs(refusal(between, PLAIN, [0, 0], [900000, 900001]), NoRest)
        self.assertIs(refusal(between, PLAIN, [0, 0], [900000, -4]), NoOrder)
        self.assertIs(refusal(between, PLAIN, [0, 0], [-900000, 4]), NoOrder)
        self.assertIs(refusal(between, PLAIN, [0, 0], [900000, 4]), TooMany)


class RefusalsTest(unittest.TestCase):
    def test_no_market(self):
        for function in OF_TWO:
            for thing in list(broken_markets(PLAIN)) + things_of_other_kinds() + [0, turned(PLAIN)]:
                self.assertIs(refusal(function, thing, [5, -4], [5, -4]), NoMarket)
            self.assertIs(refusal(function, None, None, None), NoMarket)
            self.assertIs(refusal(function, PLAIN[0], [0], [True]), NoMarket)

    def test_prices_at_their_bounds(self):
        for function in OF_TWO:
            for price in (-1000000, 1000000):
                self.assertIsInstance(refusal(function, PLAIN, [price, price], [price, price]), tuple)
            for price in (-1000001, 1000001, HUGE, -HUGE):
                for prices in ([price, 0], [0, price]):
                    self.assertIs(refusal(function, PLAIN, prices, [0, 0]), NoPrices)
                    self.assertIs(refusal(function, PLAIN, [0, 0], prices), NoPrices)
                    self.assertIs(refusal(function, PLAIN, prices, prices), NoPrices)

    def test_no_prices_of_either_list(self):
        things = things_of_other_kinds() + [[0], [0, 0, 0], (0, 0), {0: 0, 1: 0}, "00", 0, [[0, 0]]]
        for function in OF_TWO:
            for thing in things:
                self.assertIs(refusal(function, PLAIN, thing, [0, 0]), NoPrices, thing)
                self.assertIs(refusal(function, PLAIN, [0, 0], thing), NoPrices, thing)
            for thing in things_of_other_kinds():
                for prices in ([thing, 0], [0, thing]):
                    self.assertIs(refusal(function, PLAIN, prices, [0, 0]), NoPrices, thing)
                    self.assertIs(refusal(function, PLAIN, [0, 0], prices), NoPrices, thing)

    def test_no_rest(self):
        for function in OF_ONE_REST:
            for one, other in (([5, -4], [6, -4]), ([5, -4], [5, -3]), ([0, 0], [1, 1]), ([0, 0], [-3, -2])):
                self.assertIs(refusal(function, PLAIN, one, other), NoRest)
                self.assertIs(refusal(function, PLAIN, other, one), NoRest)
        for market, one, other in some_pairs(40, 18):
            for good in range(len(one)):
                unlike = list(other)
                unlike[good] += 1
                for function in OF_ONE_REST:
                    self.assertIs(refusal(function, market, one, unlike), NoRest)

    def test_no_prices_ahead_of_no_rest(self):
        for function in OF_ONE_REST:
            self.assertIs(refusal(function, PLAIN, [0, 0], [1000001, 1]), NoPrices)
            self.assertIs(refusal(function, PLAIN, [True, 1], [0, 0]), NoPrices)


class ArgumentsTest(unittest.TestCase):
    two = {"market": PLAIN, "one": [5, -4], "other": [8, 4]}

    def asked(self):
        for function in OF_TWO:
            yield function, self.two, ()
        yield meets, {**self.two, "day": 2, "bound": 30}, ("day", "bound")

    def test_by_place_and_by_name(self):
        for function, named, alone in self.asked():
            told = function(**named)
            for other in told_in_all_ways(function, named, alone):
                self.assertEqual(kinds_of(other), kinds_of(told))
        self.assertIs(stand_in_order(other=[0, 0], one=[3, 4], market=PLAIN), False)

    def test_nothing_handed_in_is_changed(self):
        for function, named, _ in self.asked():
            handed = copy.deepcopy(named)
            function(**handed)
            self.assertEqual(handed, named)
        for market, one, other in some_in_order(30, 19):
            handed = copy.deepcopy((market, one, other))
            for function in OF_TWO:
                refusal(function, *handed)
            self.assertEqual(handed, (market, one, other))

    def test_what_is_told_is_the_askers_own(self):
        for function, named, _ in self.asked():
            assert_own(self, function, **copy.deepcopy(named))
        assert_own(self, between, PLAIN, [5, -4], [5, -4])
        same = [5, -4]
        assert_own(self, between, PLAIN, same, same)
        assert_own(self, between, FOUR, [0, 0, 0, 0], [6, 8, 4, 8])

    def test_the_same_asked_again(self):
        for function, named, _ in self.asked():
            told = function(**named)
            refusal(function, PLAIN, [0, 0], [1, 1])
            refusal(function, PLAIN, [0, 0], [True, 0])
            self.assertEqual(function(**named), told)

    def test_nobody_comes(self):
        one, other = [-99, 99], [-94, 104]
        self.assertEqual(how_far(NOBODY, one, other), 2)
        self.assertIs(meets(NOBODY, one, other), None)
        self.assertEqual(len(between(NOBODY, one, other)), 4)


if __name__ == "__main__":
    unittest.main()
