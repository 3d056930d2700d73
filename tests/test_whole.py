"""Points 1, 2, 4, 7, 10, 13 and 14 over the whole program: what the modules tell beside one another."""

import copy
import inspect
import itertools
import unittest
from fractions import Fraction
from random import Random

from samples import (
    AT_THE_EDGE, FALLING, HELD, PLAIN, all_sets, broken_markets, had_by_hand, held_markets, is_held_by_hand, kinds_of,
    need_by_hand, prices_like, refusal, run_by_hand, some_markets, starts_of, things_of_other_kinds,
)
from soldrises import dealings, markets, rests, rounds, runs, stalls, starts, texts
from soldrises.dealings import does_fall, does_hold, verdict
from soldrises.desk import Desk
from soldrises.errors import NoMarket, NoPrices, NotHeld
from soldrises.markets import prices_behind, shares, sums, take_of
from soldrises.rests import prices_by, rests_at, sales_to
from soldrises.rounds import ever, far_prices, far_take, first_unlike, receipts, round_of, sold_in_round
from soldrises.runs import prices_at, sold, takes
from soldrises.seen import lets_be, worths_let
from soldrises.stalls import Stall
from soldrises.starts import are_of_one_rest, how_far, meets, stand_in_order
from soldrises.texts import read_market, show_market

FAR = 10 ** 15


def started(market, prices):
    """A market with other starts."""
    return ([good[:2] + (price,) for good, price in zip(market[0], prices)], market[1])


def pairs_of_one_rest(many, seed):
    """Held markets, each with other starts of one rest, too."""
    chance = Random(seed)
    for market in held_markets(many, seed):
        prices = prices_like(chance, market, starts_of(market), 9)
        if max(abs(price) for price in prices) <= 99:
            yield market, started(market, prices)


class OneDayTest(unittest.TestCase):
    def test_what_was_taken_rises_and_all_else_falls(self):
        for market in held_markets(48, 31):
            for day in (0, 3, 4000, 10 ** 9, FAR - 1):
                ahead, take, behind = far_prices(market, day), far_take(market, day), far_prices(market, day + 1)
                for good, (up, down, _) in enumerate(market[0]):
                    self.assertEqual(behind[good] - ahead[good], up if good == take else -down)
                self.assertEqual(take_of(market, ahead, day=day), take)
                self.assertEqual(prices_behind(market, ahead, day=day), behind)

    def test_all_that_tells_days_tells_the_same(self):
        for market in held_markets(12, 32):
            row = takes(market, 60)
            stall = Stall(market)
            desk = Desk()
            desk.say("market m " + show_market(market).replace("\n", ";"))
            for day in range(60):
                self.assertEqual(stall.prices(), far_prices(market, day))
                self.assertEqual(desk.say(f"prices m {day}"), desk.say(f"far m {day}"))
                self.assertEqual(stall.tick(), far_take(market, day))
                self.assertEqual(far_take(market, day), row[day])
            self.assertEqual(stall.prices(), prices_at(market, 60))
            self.assertEqual(stall.sold(), sold(market, 60))


class RestsTest(unittest.TestCase):
    def test_by_the_day_alone_near_and_far(self):
        for market in held_markets(60, 33):
            for day in (0, 1, 7, 4000, 4001, 10 ** 9 + 9, FAR - 1, FAR):
                told = [price % by for price, by in zip(far_prices(market, day), sums(market))]
                self.assertEqual(told, rests_at(market, day))

    def test_whoever_buys(self):
        looked = 0
        for one in held_markets(60, 34):
            other = (one[0], [[99] * len(one[0])] + one[1][:5])
            for day in (0, 5, 999, FAR):
                self.assertEqual(rests_at(one, day), rests_at(other, day))
                if is_held_by_hand(other):
                    self.assertTrue(are_of_one_rest(one, far_prices(one, day), far_prices(other, day)))
                    looked += 1
        self.assertGreater(looked, 100)

    def test_prices_are_told_by_how_often_each_good_was_sold(self):
        for market in itertools.chain(some_markets(48), held_markets(24, 35)):
            for days in (0, 1, 12, 4000):
                sales = sold(market, days)
                self.assertEqual(prices_by(market, days, sales), prices_at(market, days))
                self.assertEqual(sales_to(market, days, prices_at(market, days)), sales)

    def test_a_round_by_its_sales(self):
        for market in held_markets(48, 36):
            first, length = round_of(market)
            if first + length <= 4000:
                both = [near + more for near, more in zip(sold(market, first), sold_in_round(market))]
                self.assertEqual(both, sold(market, first + length))
                self.assertEqual(prices_by(market, first + length, both), prices_at(market, first))


class OrderTest(unittest.TestCase):
    def test_starts_in_order_stay_so_near_and_far(self):
        looked = 0
        for one, other in pairs_of_one_rest(150, 37):
            low = [min(pair) for pair in zip(starts_of(one), starts_of(other))]
            high = [max(pair) for pair in zip(starts_of(one), starts_of(other))]
            lower, higher = started(one, low), started(one, high)
            for day in (0, 1, 2, 3, 10, 100, 3999, 4001, 10 ** 6, 10 ** 6 + 1, FAR):
                self.assertTrue(stand_in_order(one, far_prices(lower, day), far_prices(higher, day)))
                self.assertTrue(stand_in_order(one, far_prices(lower, day), far_prices(one, day)))
                self.assertTrue(stand_in_order(one, far_prices(one, day), far_prices(higher, day)))
            looked += low != high
        self.assertGreater(looked, 40)

    def test_never_farther_apart_near_and_far(self):
        looked = 0
        for one, other in pairs_of_one_rest(240, 38):
            far = [how_far(one, far_prices(one, day), far_prices(other, day))
                   for day in (0, 1, 2, 3, 10, 11, 100, 3999, 4001, 10 ** 6, 10 ** 6 + 1, FAR)]
            self.assertEqual(far, sorted(far, reverse=True))
            looked += far[0] > far[-1]
        self.assertGreater(looked, 40)

    def test_where_they_meet_they_take_alike_from_then_on(self):
        met = 0
        for one, other in pairs_of_one_rest(240, 39):
            at = meets(one, starts_of(one), starts_of(other), bound=4000)
            if at is not None:
                met += at > 0
                for day in (at, at + 1, at + 50, FAR):
                    self.assertEqual(far_prices(one, day), far_prices(other, day))
                unlike = first_unlike(one, other)
                self.assertTrue(unlike is None or unlike < at)
                self.assertEqual(round_of(one)[1], round_of(other)[1])
        self.assertGreater(met, 20)

    def test_runs_to_days_told(self):
        for market in some_markets(24, seed=40):
            other = prices_like(Random(1), market, starts_of(market))
            one = starts_of(market)
            for days in (1, 5, 60):
                behind = prices_at(market, days)
                gone = other
                for day in range(days):
                    gone = prices_behind(market, gone, day=day)
                self.assertLessEqual(how_far(market, behind, gone), how_far(market, one, other))


class HeldTest(unittest.TestCase):
    def test_a_held_market_comes_round_whatever_its_starts(self):
        chance = Random(41)
        for market in held_markets(48, 41):
            for _ in range(4):
                other = started(market, [chance.choice((-99, 99, chance.randint(-99, 99))) for _ in market[0]])
                self.assertEqual(verdict(other)[0], "holds")
                first, length = round_of(other)
                self.assertEqual(far_prices(other, first), far_prices(other, first + length))
                for number, share in zip(sold_in_round(other), shares(other)):
                    self.assertEqual(number, length * Fraction(*share))

    def test_all_prices_stay_within_bounds_for_ever(self):
        for market in held_markets(60, 42):
            bounds = ever(market)
            for day in (0, 1, 17, 4000, 10 ** 12, FAR):
                for price, (low, high) in zip(far_prices(market, day), bounds):
                    self.assertTrue(low <= price <= high)
            for price, (low, high) in zip(prices_at(market, 4000), bounds):
                self.assertTrue(low <= price <= high)

    def test_told_is_a_round_just_where_a_dealing_is(self):
        words = []
        for market in itertools.chain(some_markets(240), AT_THE_EDGE, FALLING, held_markets(24, 43)):
            word, told = verdict(market)
            words.append(word)
            held = does_hold(market, told)
            self.assertEqual(held, is_held_by_hand(market))
            for function in (round_of, sold_in_round, ever, receipts):
                self.assertEqual(refusal(function, market) is NotHeld, not held)
            for function in (far_prices, far_take):
                self.assertEqual(refusal(function, market, FAR) is NotHeld, not held)
            desk = Desk()
            desk.say("market m " + show_market(market).replace("\n", ";"))
            self.assertEqual(desk.say("how m"), word)
            self.assertEqual(refusal(desk.say, "round m") is NotHeld, not held)
        self.assertGreater(min(words.count(word) for word in ("holds", "falls", "edge")), 5)

    def test_the_sum_over_a_falling_set_falls(self):
        looked = 0
        for market in itertools.chain(some_markets(120, seed=44), FALLING):
            length = len(market[1])
            _, ahead = run_by_hand(market, 40 * length)
            for goods in all_sets(market):
                lack = need_by_hand(market, goods) - had_by_hand(market, goods)
                self.assertEqual(does_fall(market, goods), lack > 0)
                if lack > 0:
                    over = [sum(Fraction(prices[good], sums(market)[good]) for good in goods)
                            for prices in ahead[::length]]
                    for before, behind in zip(over, over[1:]):
                        self.assertGreaterEqual(before - behind, lack)
                    self.assertIs(refusal(round_of, market), NotHeld)
                    looked += 1
        self.assertGreater(looked, 60)


class WorthsTest(unittest.TestCase):
    def test_the_worths_of_a_market_let_its_own_run_be(self):
        for market in itertools.chain(some_markets(60, seed=45), held_markets(48, 46)):
            row = takes(market, 300)
            self.assertIs(lets_be(market[0], market[1], row), True)
            told = worths_let(market[0], len(market[1]), row)
            self.assertIs(lets_be(market[0], [least for least, _ in told], row), True)
            for buyer, (least, greatest) in zip(market[1], told):
                for good, low in enumerate(least):
                    worth = None if buyer is None else buyer[good]
                    if low is not None:
                        self.assertLessEqual(low, worth)
                    if worth is not None and greatest[good] is not None:
                        self.assertGreaterEqual(greatest[good], worth)

    def test_the_least_worths_of_a_whole_round_take_alike_for_ever(self):
        looked = 0
        for market in held_markets(120, 47):
            first, length = round_of(market)
            if first + length <= 300:
                told = worths_let(market[0], len(market[1]), takes(market, first + length))
                other = (market[0], [least for least, _ in told])
                # The least ones may want too little to be held, or be worths of no market.
                if refusal(round_of, other) not in (NotHeld, NoMarket):
                    self.assertIsNone(first_unlike(market, other))
                    self.assertEqual(receipts(market), receipts(other))
                    looked += 1
        self.assertGreater(looked, 20)

    def test_a_length_of_two_rounds_lets_be_what_one_lets_be(self):
        for market in some_markets(60, seed=48):
            if len(market[1]) <= 3:
                row = takes(market, 90)
                once = worths_let(market[0], len(market[1]), row)
                twice = worths_let(market[0], 2 * len(market[1]), row)
                for (least, greatest), (low, high) in zip(once + once, twice):
                    for good in range(len(market[0])):
                        if low[good] is not None:
                            self.assertLessEqual(low[good], least[good])
                        if greatest[good] is not None and high[good] is not None:
                            self.assertLessEqual(greatest[good], high[good])


class RefusalsTest(unittest.TestCase):
    def test_no_market_ahead_of_all_else_everywhere(self):
        asked = [
            (function, list(inspect.signature(function).parameters.values()))
            for module in (markets, runs, rests, starts, dealings, rounds, texts)
            for name, function in vars(module).items()
            if inspect.isfunction(function) and function.__module__ == module.__name__
            and name in LISTED_OF_MARKETS
        ] + [(stalls.Stall, list(inspect.signature(stalls.Stall).parameters.values()))]
        self.assertEqual(len(asked), len(LISTED_OF_MARKETS) + 1)
        for thing in list(broken_markets(PLAIN))[::7] + things_of_other_kinds():
            for function, parameters in asked:
                others = [True for one in parameters[1:] if one.kind is not one.KEYWORD_ONLY]
                named = {one.name: True for one in parameters if one.kind is one.KEYWORD_ONLY}
                self.assertIs(refusal(function, thing, *others, **named), NoMarket, function)

    def test_no_prices_behind_no_market_and_ahead_of_the_others(self):
        for function, *others in ((sales_to, True), (take_of,), (prices_behind,)):
            for prices in ([0], [0, True], None, [0, 1000001]):
                arguments = (HELD, others[0], prices) if others else (HELD, prices)
                named = {} if others else {"day": True}
                self.assertIs(refusal(function, *arguments, **named), NoPrices)
        for function in (are_of_one_rest, stand_in_order, how_far, meets):
            self.assertIs(refusal(function, HELD, [0, 0], [0, -1000001]), NoPrices)

    def test_nothing_told_is_kept(self):
        market = copy.deepcopy(HELD)
        for told in (verdict(market), ever(market), receipts(market), far_prices(market, 9), takes(market, 20),
                     worths_let(market[0], 2, takes(market, 20)), read_market(show_market(market))):
            kept = kinds_of(told)
            again = copy.deepcopy(told)
            for inner in told:
                if isinstance(inner, list):
                    inner.clear()
            if isinstance(told, list):
                told.clear()
            self.assertEqual(kinds_of(again), kept)
        self.assertEqual(kinds_of(market), kinds_of(HELD))
        self.assertEqual(ever(market), ever(HELD))
        self.assertEqual(verdict(market), verdict(HELD))


LISTED_OF_MARKETS = (
    "sums", "shares", "take_of", "prices_behind", "takes", "prices_at", "sold", "prices_by", "rests_at", "sales_to",
    "are_of_one_rest", "stand_in_order", "how_far", "meets", "between", "needs", "has", "verdict", "does_hold",
    "does_fall", "round_of", "sold_in_round", "far_prices", "far_take", "ever", "receipts", "first_unlike",
    "show_market",
)


if __name__ == "__main__":
    unittest.main()
