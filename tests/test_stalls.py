"""Points 2 and 8: a stall that is gone day by day."""

import copy
import unittest
from random import Random

from samples import (
    HUGE, NOBODY, PLAIN, assert_own, broken_markets, kinds_of, not_whole, prices_by_hand, refusal, some_buyer,
    some_markets, starts_of, take_by_hand, things_of_other_kinds, told_in_all_ways, turned,
)
from soldrises.errors import NoBuyer, NoGood, NoMarket, NoStep
from soldrises.markets import prices_behind, take_of
from soldrises.runs import prices_at, sold, takes
from soldrises.stalls import Stall

# Who buys one good, both goods, none.
ONE = ([(1, 1, 0), (2, 3, 0)], [[5, None]])


def seen(stall):
    """All that a stall tells but its log."""
    return stall.day(), stall.prices(), stall.sold()


class ByHand:
    """A stall gone by what is told of one day: take_of and prices_behind of a market for just that day."""

    def __init__(self, market):
        self.goods, self.days = copy.deepcopy(market)
        self.at = 0
        self.now = starts_of(market)
        self.sales = [0] * len(self.goods)
        self.coming = []
        self.words = []

    def tick(self):
        self.words += ["in tick", "out tick"]
        buyer = self.coming.pop() if self.coming else self.days[self.at % len(self.days)]
        take = take_of((self.goods, [buyer]), self.now)
        if take is not None:
            self.sales[take] += 1
        self.now = prices_behind((self.goods, [buyer]), self.now)
        self.at += 1
        return take

    def tell(self, buyer):
        self.words += ["in tell", "out tell"]
        self.coming = [copy.deepcopy(buyer)]

    def step(self, good, up, down):
        self.words += ["in step", "out step"]
        self.goods[good] = (up, down, 0)

    def seen(self):
        return self.at, self.now, self.sales


class TickTest(unittest.TestCase):
    def test_ahead_of_all_days(self):
        for market in some_markets(30) + [PLAIN, NOBODY]:
            stall = Stall(market)
            self.assertEqual(kinds_of(seen(stall)), kinds_of((0, starts_of(market), [0] * len(market[0]))))
            self.assertEqual(stall.log(), [])

    def test_a_run_reckoned_by_hand(self):
        stall = Stall(PLAIN)
        self.assertEqual([stall.tick() for _ in range(6)], [1, 1, None, 0, 1, None])
        self.assertEqual(kinds_of(seen(stall)), kinds_of((6, [-4, 2], [1, 3])))

    def test_each_day_against_a_run(self):
        for market in some_markets(60) + [PLAIN, NOBODY]:
            stall = Stall(market)
            told = []
            for day in range(40):
                self.assertEqual(seen(stall), (day, prices_at(market, day), sold(market, day)))
                told.append(stall.tick())
            self.assertEqual(kinds_of(told), kinds_of(takes(market, 40)))

    def test_some_hundred_days(self):
        for market in some_markets(12, seed=11) + [PLAIN, NOBODY]:
            stall = Stall(market)
            self.assertEqual([stall.tick() for _ in range(300)], takes(market, 300))
            self.assertEqual(seen(stall), (300, prices_at(market, 300), sold(market, 300)))
            self.assertEqual(stall.log(), ["in tick", "out tick"] * 300)

    def test_prices_beyond_a_million(self):
        stall = Stall(([(1, 4, -99), (1, 3, 99)], [None, None]))
        days = 250100
        for _ in range(days):
            stall.tick()
        self.assertEqual(seen(stall), (days, [-99 - 4 * days, 99 - 3 * days], [0, 0]))
        self.assertLess(stall.prices()[0], -1000000)
        stall.tell([-99, 99])
        self.assertEqual(stall.tick(), 0)
        self.assertEqual(stall.prices(), [-98 - 4 * days, 96 - 3 * days])
        stall.step(0, 4, 1)
        self.assertIsNone(stall.tick())
        self.assertEqual(seen(stall), (days + 2, [-99 - 4 * days, 93 - 3 * days], [1, 0]))

    def test_two_stalls_of_one_market_are_two(self):
        one, other = Stall(PLAIN), Stall(PLAIN)
        one.tell(None)
        one.step(0, 4, 4)
        one.tick()
        self.assertEqual(seen(other), (0, [5, -4], [0, 0]))
        self.assertEqual(other.log(), [])
        self.assertEqual([other.tick() for _ in range(6)], [1, 1, None, 0, 1, None])


class TellTest(unittest.TestCase):
    def test_the_told_one_comes_in_the_place_of_the_rounds(self):
        stall = Stall(ONE)
        stall.tell([None, 7])
        self.assertEqual(stall.tick(), 1)
        self.assertEqual(seen(stall), (1, [-1, 2], [0, 1]))

    def test_he_comes_once(self):
        stall = Stall(ONE)
        stall.tell([None, 7])
        self.assertEqual([stall.tick() for _ in range(3)], [1, 0, 0])
        self.assertEqual(seen(stall), (3, [1, -4], [2, 1]))

    def test_none_told(self):
        stall = Stall(ONE)
        self.assertIsNone(stall.tell(None))
        self.assertIsNone(stall.tick())
        self.assertEqual(seen(stall), (1, [-1, -3], [0, 0]))
        self.assertEqual(stall.tick(), 0)

    def test_the_last_one_told_holds(self):
        for first, last, take in (
            ([None, 7], [7, None], 0), ([7, None], [None, 7], 1), (None, [None, 7], 1), ([None, 7], None, None),
            (None, None, None), ([7, None], [None, None], None),
        ):
            stall = Stall(ONE)
            stall.tell(first)
            stall.tell(last)
            self.assertEqual(kinds_of(stall.tick()), kinds_of(take))
            self.assertEqual(stall.tick(), 0)
            self.assertEqual(stall.log(), ["in tell", "out tell"] * 2 + ["in tick", "out tick"] * 2)

    def test_the_round_goes_on_by_the_days(self):
        market = ([(1, 1, 0)] * 3, [[50, None, None], [None, 50, None], [None, None, 50]])
        stall = Stall(market)
        self.assertEqual(stall.tick(), 0)
        stall.tell([50, None, None])
        self.assertEqual([stall.tick() for _ in range(3)], [0, 2, 0])

    def test_told_between_any_days(self):
        for day in range(7):
            stall = Stall(PLAIN)
            for _ in range(day):
                stall.tick()
            stall.tell(None)
            self.assertEqual(seen(stall), (day, prices_at(PLAIN, day), sold(PLAIN, day)))
            self.assertIsNone(stall.tick())
            self.assertEqual(stall.day(), day + 1)
            self.assertEqual(stall.sold(), sold(PLAIN, day))

    def test_worths_at_their_bounds(self):
        for worth, take in ((-99, None), (99, 1), (0, 1)):
            stall = Stall(ONE)
            stall.tell([None, worth])
            self.assertEqual(stall.tick(), take)
        for worth in (-100, 100, HUGE, -HUGE):
            self.assertIs(refusal(Stall(ONE).tell, [None, worth]), NoBuyer)

    def test_no_buyer(self):
        stall = Stall(ONE)
        for thing in things_of_other_kinds():
            if thing is not None:
                self.assertIs(refusal(stall.tell, thing), NoBuyer, thing)
                self.assertIs(refusal(stall.tell, [0, thing]), NoBuyer, thing)
                self.assertIs(refusal(stall.tell, [thing, None]), NoBuyer, thing)
        for thing in ([], [0], [None], [0, 0, 0], [None] * 3, (0, 0), (None, None), {0: 0, 1: 0}, 0, [0, True],
                      [False, 0], [0, "0"], [[0, 0]], ONE, "00"):
            self.assertIs(refusal(stall.tell, thing), NoBuyer, thing)

    def test_a_refused_one_leaves_who_was_told(self):
        for told, take in (([None, 7], 1), (None, None)):
            for thing in ([7], (7, None), [True, None], [100, None], "nobody", 0, []):
                stall = Stall(ONE)
                stall.tell(told)
                self.assertIs(refusal(stall.tell, thing), NoBuyer)
                self.assertEqual(seen(stall), (0, [0, 0], [0, 0]))
                self.assertEqual(kinds_of(stall.tick()), kinds_of(take))
        stall = Stall(ONE)
        self.assertIs(refusal(stall.tell, [None]), NoBuyer)
        self.assertEqual(stall.tick(), 0)


class StepTest(unittest.TestCase):
    def test_from_now_on(self):
        stall = Stall(ONE)
        self.assertEqual(stall.tick(), 0)
        self.assertEqual(stall.prices(), [1, -3])
        self.assertIsNone(stall.step(0, 4, 2))
        self.assertEqual(seen(stall), (1, [1, -3], [1, 0]))
        self.assertEqual(stall.tick(), 0)
        self.assertEqual(stall.prices(), [5, -6])
        stall.step(1, 1, 1)
        self.assertEqual(stall.tick(), 0)
        self.assertEqual(stall.prices(), [9, -7])
        self.assertIsNone(stall.tick())
        self.assertEqual(seen(stall), (4, [7, -8], [3, 0]))

    def test_the_last_steps_hold(self):
        stall = Stall(ONE)
        stall.step(0, 4, 4)
        stall.step(0, 2, 3)
        stall.tick()
        self.assertEqual(stall.prices(), [2, -3])

    def test_the_same_steps_change_nothing(self):
        for market in some_markets(20) + [PLAIN]:
            stall = Stall(market)
            told = []
            for day in range(30):
                good = day % len(market[0])
                up, down, _ = market[0][good]
                stall.step(good, up, down)
                told.append(stall.tick())
            self.assertEqual(told, takes(market, 30))
            self.assertEqual(seen(stall), (30, prices_at(market, 30), sold(market, 30)))

    def test_sales_behind_changed_steps(self):
        stall = Stall(([(1, 1, 0)], [[50]]))
        for up, down in ((4, 1), (1, 4), (2, 2), (3, 1)):
            stall.step(0, up, down)
            self.assertEqual([stall.tick() for _ in range(3)], [0, 0, 0])
        stall.tell(None)
        stall.tick()
        self.assertEqual(seen(stall), (13, [12 + 3 + 6 + 9 - 1], [12]))

    def test_steps_at_their_bounds(self):
        for step in (1, 2, 3, 4):
            stall = Stall(ONE)
            stall.step(0, step, 1)
            stall.step(1, 1, step)
            stall.tick()
            self.assertEqual(stall.prices(), [step, -step])
        for step in [0, 5, -1, HUGE, -HUGE] + not_whole():
            for good in (0, 1):
                self.assertIs(refusal(Stall(ONE).step, good, step, 1), NoStep, step)
                self.assertIs(refusal(Stall(ONE).step, good, 1, step), NoStep, step)
                self.assertIs(refusal(Stall(ONE).step, good, step, step), NoStep, step)

    def test_no_good(self):
        for good in [2, 3, -1, -2, HUGE, -HUGE] + not_whole():
            self.assertIs(refusal(Stall(ONE).step, good, 1, 1), NoGood, good)
        for many in (1, 2, 3, 4):
            stall = Stall(([(1, 1, 0)] * many, [None]))
            self.assertEqual(refusal(stall.step, many - 1, 2, 2), (None,))
            self.assertIs(refusal(stall.step, many, 2, 2), NoGood)

    def test_no_good_ahead_of_no_step(self):
        for good in (2, -1, True, None, "0"):
            for up, down in ((0, 1), (1, 5), (None, None), (True, False)):
                self.assertIs(refusal(Stall(ONE).step, good, up, down), NoGood)

    def test_a_refused_one_leaves_the_steps(self):
        for good, up, down in ((2, 4, 4), (-1, 4, 4), (True, 4, 4), (0, 4, 5), (0, 0, 4), (1, True, 4), (1, 4, None)):
            stall = Stall(ONE)
            stall.tell([None, 7])
            self.assertIn(refusal(stall.step, good, up, down), (NoGood, NoStep))
            self.assertEqual(seen(stall), (0, [0, 0], [0, 0]))
            self.assertEqual(stall.tick(), 1)
            self.assertEqual(stall.prices(), [-1, 2])
            self.assertEqual(stall.tick(), 0)
            self.assertEqual(stall.prices(), [0, -1])


class DeedsTest(unittest.TestCase):
    def deed(self, chance, stall, other):
        """One deed, of both, which tell the same."""
        wide = len(other.goods)
        kind = chance.randint(0, 5)
        if kind == 0:
            buyer = some_buyer(chance, wide)
            self.assertIsNone(stall.tell(buyer))
            other.tell(buyer)
        elif kind == 1:
            deed = chance.randrange(wide), chance.randint(1, 4), chance.randint(1, 4)
            self.assertIsNone(stall.step(*deed))
            other.step(*deed)
        elif kind == 2:
            self.assertIs(refusal(stall.tell, [0] * (wide + 1)), NoBuyer)
            self.assertIs(refusal(stall.step, wide, 1, 1), NoGood)
            self.assertIs(refusal(stall.step, 0, 1, 0), NoStep)
            other.words += ["in tell", "out tell"] + ["in step", "out step"] * 2
        else:
            self.assertEqual(kinds_of(stall.tick()), kinds_of(other.tick()))

    def test_against_days_gone_one_by_one(self):
        for number, market in enumerate(some_markets(60, seed=5) + [PLAIN, NOBODY]):
            chance = Random(number)
            stall, other = Stall(market), ByHand(market)
            for _ in range(120):
                self.deed(chance, stall, other)
                self.assertEqual(kinds_of(seen(stall)), kinds_of(other.seen()))
            self.assertEqual(stall.log(), other.words)

    def test_against_another_way(self):
        for market in some_markets(30, seed=9):
            chance = Random(len(market[1]))
            stall = Stall(market)
            prices = starts_of(market)
            goods = list(market[0])
            for _ in range(60):
                good = chance.randrange(len(goods))
                goods[good] = (chance.randint(1, 4), chance.randint(1, 4), 0)
                stall.step(good, *goods[good][:2])
                buyer = some_buyer(chance, len(goods))
                stall.tell(buyer)
                take = take_by_hand(buyer, prices)
                prices = prices_by_hand(goods, prices, take)
                self.assertEqual(stall.tick(), take)
                self.assertEqual(stall.prices(), prices)

    def test_the_same_deeds_again(self):
        for market in some_markets(10):
            told = []
            for _ in range(2):
                chance = Random(3)
                stall, other = Stall(market), ByHand(market)
                for _ in range(50):
                    self.deed(chance, stall, other)
                told.append((seen(stall), stall.log()))
            self.assertEqual(told[0], told[1])


class LogTest(unittest.TestCase):
    def test_words_in_their_order(self):
        stall = Stall(ONE)
        stall.tick()
        self.assertEqual(stall.log(), ["in tick", "out tick"])
        stall.tell(None)
        stall.step(0, 1, 1)
        stall.tick()
        self.assertEqual(stall.log(), ["in tick", "out tick", "in tell", "out tell", "in step", "out step",
                                       "in tick", "out tick"])

    def test_refused_deeds(self):
        stall = Stall(ONE)
        refusal(stall.tell, ())
        self.assertEqual(stall.log(), ["in tell", "out tell"])
        refusal(stall.step, 2, 1, 1)
        self.assertEqual(stall.log(), ["in tell", "out tell", "in step", "out step"])
        refusal(stall.step, 0, 0, 1)
        stall.tick()
        self.assertEqual(stall.log(), ["in tell", "out tell"] + ["in step", "out step"] * 2 + ["in tick", "out tick"])
        self.assertEqual(seen(stall), (1, [1, -3], [1, 0]))

    def test_what_is_only_asked_is_no_deed(self):
        stall = Stall(ONE)
        for _ in range(3):
            seen(stall)
            stall.log()
        self.assertEqual(stall.log(), [])

    def test_texts(self):
        stall = Stall(ONE)
        stall.tick()
        self.assertEqual(kinds_of(stall.log()), kinds_of(["in tick", "out tick"]))


class OwnTest(unittest.TestCase):
    def test_no_market(self):
        for thing in things_of_other_kinds() + [0, 1, HUGE, turned(PLAIN), list(PLAIN)]:
            self.assertIs(refusal(Stall, thing), NoMarket)
        for thing in broken_markets(PLAIN):
            self.assertIs(refusal(Stall, thing), NoMarket)

    def test_a_market_changed_by_the_asker_changes_nothing(self):
        for market in some_markets(20) + [PLAIN]:
            handed = copy.deepcopy(market)
            stall = Stall(handed)
            for day in range(20):
                stall.tick()
                handed[0].insert(0, (4, 4, 99))
                handed[0].pop()
                for buyer in handed[1]:
                    if buyer is not None:
                        buyer[0] = day
                        buyer.append(day)
                handed[1].reverse()
                handed[1].append(None)
                self.assertEqual(seen(stall), (day + 1, prices_at(market, day + 1), sold(market, day + 1)))

    def test_a_market_is_not_changed(self):
        for market in some_markets(20) + [PLAIN]:
            handed = copy.deepcopy(market)
            stall = Stall(handed)
            for good in range(len(market[0])):
                stall.step(good, 4, 4)
                stall.tell([good] * len(market[0]))
                stall.tick()
                refusal(stall.step, good, 0, 0)
            self.assertEqual(kinds_of(handed), kinds_of(market))

    def test_a_buyer_is_not_kept(self):
        stall = Stall(ONE)
        buyer = [None, 7]
        stall.tell(buyer)
        buyer[0] = 50
        buyer[1] = None
        self.assertEqual(stall.tick(), 1)
        self.assertEqual(buyer, [50, None])

    def test_lists_told_are_the_askers_own(self):
        stall = Stall(PLAIN)
        for _ in range(4):
            for ask in (stall.prices, stall.sold, stall.log):
                assert_own(self, ask)
            stall.tick()
        for ask in (stall.prices, stall.sold, stall.log):
            ask().clear()
        self.assertEqual(seen(stall), (4, [0, 0], [1, 2]))
        self.assertEqual(stall.tick(), 1)
        self.assertEqual(stall.log(), ["in tick", "out tick"] * 5)

    def test_lists_told_stay_as_they_were(self):
        stall = Stall(PLAIN)
        prices, sales, words = stall.prices(), stall.sold(), stall.log()
        stall.tick()
        self.assertEqual((prices, sales, words), ([5, -4], [0, 0], []))

    def test_by_place_and_by_name(self):
        def gone(market, told, good, up, down):
            stall = Stall(market=market)
            stall.tell(buyer=told)
            stall.tick()
            told_in_all_ways(stall.step, {"good": good, "up": up, "down": down})
            return stall.tick(), seen(stall)

        stall = Stall(ONE)
        stall.tell([None, 7])
        stall.tick()
        stall.step(1, 4, 2)
        self.assertEqual(gone(ONE, [None, 7], 1, 4, 2), (stall.tick(), seen(stall)))

    def test_each_step_by_its_own_name(self):
        for names in (("good", "up", "down"), ("down", "good", "up"), ("up", "down", "good")):
            stall = Stall(ONE)
            stall.step(**{name: {"good": 1, "up": 4, "down": 2}[name] for name in names})
            stall.tick()
            self.assertEqual(stall.prices(), [1, -2])


if __name__ == "__main__":
    unittest.main()
