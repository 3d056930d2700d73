"""Points 2, 15 and 16: the round to which a market comes, days however far, receipts, and where two part."""

import copy
import itertools
import math
import unittest
from fractions import Fraction

from samples import (
    AT_THE_EDGE, FALLING, HELD, HUGE, NOBODY, PLAIN, assert_own, assert_told_in_all_ways, broken_markets,
    held_markets, kinds_of, not_whole, refusal, run_by_hand, starts_of, things_of_other_kinds, turned,
)
from soldrises.errors import NoDay, NoMarket, NotHeld
from soldrises.rounds import ever, far_prices, far_take, first_unlike, receipts, round_of, sold_in_round
from soldrises.runs import prices_at, takes

FAR = 10 ** 15
OF_ONE = (round_of, sold_in_round, ever, receipts)
OF_DAYS = (far_prices, far_take)
# One good, taken each other day at 0.
ONE = ([(1, 1, 0)], [[0]])
# Two of the three goods have but 1/35 of a day in six to spare, so they rise to what they are worth for long.
SLOW = ([(4, 1, -99), (4, 1, -99), (4, 3, -99)],
        [[99, 99, 99], [-99, 99, -99], [99, 99, 99], [-99, 99, 99], None, [99, -99, 97]])


def not_held():
    return AT_THE_EDGE + FALLING


def round_by_hand(market):
    """First and length, found by looking for a day that is like an earlier one."""
    seen = []
    prices = starts_of(market)
    for day in itertools.count():
        place = (day % len(market[1]), prices)
        if place in seen:
            return seen.index(place), day - seen.index(place)
        seen.append(place)
        prices = run_by_hand(([good[:2] + (price,) for good, price in zip(market[0], prices)],
                              [market[1][day % len(market[1])]]), 1)[1][1]


class RoundOfTest(unittest.TestCase):
    def test_reckoned_by_hand(self):
        # Prices 0, 1, 0, and so on.
        self.assertEqual(kinds_of(round_of(ONE)), kinds_of((0, 2)))
        # Prices 5, 4, 3, 2, 1, 0, 1, 0: the first that comes again is 1.
        self.assertEqual(round_of(([(1, 1, 5)], [[0]])), (4, 2))
        self.assertEqual(round_of(([(1, 1, 5)], [[0], [0]])), (4, 2))
        self.assertEqual(round_of(([(1, 1, -5)], [[0]])), (5, 2))
        # Three days: a length that the round's length divides.
        self.assertEqual(round_of(([(1, 1, 0)], [[0]] * 3)), (0, 6))
        self.assertEqual(round_of(([(1, 1, -3)], [[0]] * 3)), (3, 6))
        # Prices 0 0, -2 2, -4 0, and behind twelve days -4 0 again.
        self.assertEqual(round_of(HELD), (2, 10))

    def test_by_looking_for_an_earlier_day(self):
        for market in held_markets(72, 1):
            self.assertEqual(kinds_of(round_of(market)), kinds_of(round_by_hand(market)))

    def test_behind_first_and_length_are_the_prices_behind_first(self):
        for market in held_markets(240, 2):
            first, length = round_of(market)
            _, ahead = run_by_hand(market, first + 2 * length)
            self.assertEqual(length % len(market[1]), 0)
            self.assertGreaterEqual(length, 1)
            self.assertEqual(ahead[first], ahead[first + length])
            self.assertEqual(ahead[first:first + length], ahead[first + length:-1])

    def test_no_lesser_first_and_no_lesser_length(self):
        for market in held_markets(120, 3):
            first, length = round_of(market)
            by = len(market[1])
            _, ahead = run_by_hand(market, first + 2 * length)
            for other in range(first):
                # Behind first all comes within a length, so looking so far is enough.
                later = ahead[other + by:first + length + by:by]
                self.assertNotIn(ahead[other], later)
            for other in range(by, length, by):
                self.assertNotEqual(ahead[first], ahead[first + other])

    def test_early_and_late_rounds(self):
        told = [round_of(market) for market in held_markets(240, 4)]
        firsts = [first for first, _ in told]
        self.assertGreater(firsts.count(0), 5)
        self.assertGreater(len([first for first in firsts if first > 100]), 50)
        self.assertGreater(len({length for _, length in told}), 10)

    def test_a_market_from_its_round_on_begins_at_once(self):
        for market in held_markets(60, 5):
            first, length = round_of(market)
            begun = first + -first % len(market[1])
            prices = run_by_hand(market, begun)[1][begun]
            if max(abs(price) for price in prices) <= 99:
                goods = [good[:2] + (price,) for good, price in zip(market[0], prices)]
                self.assertEqual(round_of((goods, market[1])), (0, length))

    def test_a_round_that_begins_beyond_four_thousand_days(self):
        first, length = round_of(SLOW)
        self.assertGreater(first, 4000)
        _, ahead = run_by_hand(SLOW, first + length)
        self.assertEqual(ahead[first], ahead[first + length])
        self.assertNotEqual(ahead[first - 1], ahead[first - 1 + length])
        places = [(day % 6, *ahead[day]) for day in range(first + length)]
        self.assertEqual(len(set(places)), len(places))

    def test_the_like_buyers_twice(self):
        # The prices may come again at a day of the round at which other buyers come; these are not counted.
        for market in held_markets(60, 6):
            if len(market[1]) <= 3:
                first, length = round_of(market)
                doubled = (market[0], market[1] * 2)
                by = 2 * len(market[1])
                self.assertEqual(round_of(doubled), (first, math.lcm(length, by)))


class SoldInRoundTest(unittest.TestCase):
    def test_reckoned_by_hand(self):
        self.assertEqual(kinds_of(sold_in_round(ONE)), kinds_of([1]))
        self.assertEqual(sold_in_round(([(1, 1, -3)], [[0]] * 3)), [3])
        self.assertEqual(sold_in_round(HELD), [4, 5])

    def test_a_count(self):
        for market in held_markets(160, 7):
            first, length = round_of(market)
            told, _ = run_by_hand(market, first + length)
            counted = [told[first:].count(good) for good in range(len(market[0]))]
            self.assertEqual(kinds_of(sold_in_round(market)), kinds_of(counted))

    def test_length_times_the_share(self):
        for market in itertools.chain(held_markets(160, 8), (ONE, HELD, SLOW)):
            _, length = round_of(market)
            for number, (up, down, _) in zip(sold_in_round(market), market[0]):
                self.assertEqual(Fraction(number), length * Fraction(down, up + down))


class FarTest(unittest.TestCase):
    def look(self, market, days):
        """A look at days of which a run tells the prices and the take."""
        told, ahead = run_by_hand(market, max(days) + 1)
        for day in days:
            self.assertEqual(kinds_of(far_prices(market, day)), kinds_of(ahead[day]))
            self.assertEqual(kinds_of(far_take(market, day)), kinds_of(told[day]))

    def test_reckoned_by_hand(self):
        self.assertEqual([far_prices(ONE, day) for day in (0, 1, 2, 999, FAR)], [[0], [1], [0], [1], [0]])
        self.assertEqual([far_take(ONE, day) for day in (0, 1, 2, 999, FAR)], [0, None, 0, None, 0])
        falling = ([(1, 1, 5)], [[0]])
        self.assertEqual([far_prices(falling, day) for day in range(9)], [[5], [4], [3], [2], [1], [0], [1], [0], [1]])
        self.assertEqual([far_take(falling, day) for day in range(9)], [None] * 5 + [0, None, 0, None])

    def test_each_day_to_behind_the_round(self):
        for market in itertools.islice(held_markets(72, 9), 0, None, 3):
            first, length = round_of(market)
            days = [day for day in (first - 1, first, first + 1, first + length - 1, first + length) if day >= 0]
            self.look(market, list(range(12)) + days + list(range(first, first + 2 * length + 2, 7)))

    def test_days_to_four_thousand(self):
        for market in itertools.chain(held_markets(24, 10), (SLOW,)):
            for day in (0, 1, 2, 999, 2500, 3998, 3999, 4000):
                self.assertEqual(far_prices(market, day), prices_at(market, day))
                if day < 4000:
                    self.assertEqual(far_take(market, day), takes(market, 4000)[day])
            self.look(market, [3997, 3998, 3999, 4000, 4001, 4002, 4050])

    def test_all_days_to_four_thousand(self):
        for market in (HELD, ([(1, 1, -3)], [[0]] * 3)):
            self.look(market, list(range(4001)))

    def test_far_days_that_lie_rounds_apart(self):
        for market in itertools.chain(held_markets(48, 11), (ONE, HELD, SLOW)):
            first, length = round_of(market)
            told, ahead = run_by_hand(market, first + length)
            for rounds in (1, 2, 1000, (FAR - first) // length - 1):
                for more in (0, 1, length // 2, length - 1):
                    day = first + rounds * length + more
                    self.assertEqual(far_prices(market, day), ahead[first + more])
                    self.assertEqual(kinds_of(far_take(market, day)), kinds_of(told[first + more]))
            at = first + (FAR - first) % length
            self.assertEqual(far_prices(market, FAR), ahead[at])
            self.assertEqual(far_take(market, FAR), told[at])

    def test_days_ahead_of_a_late_round(self):
        first, length = round_of(SLOW)
        self.look(SLOW, [4001, first - length, first - 1, first, first + 1, first + length - 1, first + length])

    def test_one_day_on(self):
        for market in held_markets(24, 12):
            for day in (5, 4000, 10 ** 9 + 7, FAR - 1):
                take = far_take(market, day)
                behind = [price - down + (up + down) * (good == take)
                          for good, ((up, down, _), price) in enumerate(zip(market[0], far_prices(market, day)))]
                self.assertEqual(far_prices(market, day + 1), behind)

    def test_days_at_their_bounds(self):
        for function in OF_DAYS:
            for days in [-1, -2, -FAR, FAR + 1, FAR + 2, 10 * FAR, HUGE, -HUGE] + not_whole():
                self.assertIs(refusal(function, HELD, days), NoDay, days)
            self.assertIsInstance(refusal(function, HELD, FAR), tuple)
            self.assertIsInstance(refusal(function, HELD, 0), tuple)


class EverTest(unittest.TestCase):
    def test_reckoned_by_hand(self):
        self.assertEqual(kinds_of(ever(ONE)), kinds_of([(0, 1)]))
        # The start is the greatest, then the least.
        self.assertEqual(ever(([(1, 1, 5)], [[0]])), [(0, 5)])
        self.assertEqual(ever(([(1, 1, -5)], [[0]])), [(-5, 1)])
        # Prices 0, 3, 2, 1, 0, -1, 2, 1, 0, -1, 2, 1, and again.
        self.assertEqual(ever(([(3, 1, 0)], [[0], None, [-1]])), [(-1, 3)])

    def test_all_days_to_behind_the_first_round(self):
        for market in itertools.chain(held_markets(160, 13), (HELD, SLOW)):
            first, length = round_of(market)
            _, ahead = run_by_hand(market, first + length + 20)
            told = [(min(prices), max(prices)) for prices in zip(*ahead)]
            self.assertEqual(kinds_of(ever(market)), kinds_of(told))

    def test_where_the_start_is_the_least_or_the_greatest(self):
        least = greatest = within = 0
        for market in held_markets(160, 14):
            for start, (low, high) in zip(starts_of(market), ever(market)):
                self.assertTrue(low <= start <= high)
                least += start == low
                greatest += start == high
                within += low < start < high
        self.assertGreater(min(least, greatest, within), 10)


class ReceiptsTest(unittest.TestCase):
    def by_hand(self, market, begun):
        """The receipts of as many days as a round has, from any day of it on."""
        _, length = round_of(market)
        told, ahead = run_by_hand(market, begun + length)
        return [sum(ahead[day][good] for day in range(begun, begun + length) if told[day] == good)
                for good in range(len(market[0]))]

    def test_reckoned_by_hand(self):
        self.assertEqual(kinds_of(receipts(ONE)), kinds_of([0]))
        self.assertEqual(receipts(([(1, 1, 7)], [[7]])), [7])
        self.assertEqual(receipts(([(1, 1, 7)], [[6]])), [6])
        self.assertEqual(receipts(([(1, 1, 7)], [[-6]])), [-6])
        # In a round of four days it is taken twice.
        self.assertEqual(receipts(([(1, 1, 4)], [[4], [4], [4], [4]])), [8])
        # Ahead of its rise by 3 it is at 0, and falls for three days.
        self.assertEqual(receipts(([(3, 1, 0)], [[0]])), [0])
        self.assertEqual(receipts(([(3, 1, 1)], [[1]])), [1])

    def test_prices_ahead_of_each_take(self):
        below = 0
        for market in itertools.chain(held_markets(160, 15), (HELD, SLOW)):
            told = self.by_hand(market, round_of(market)[0])
            self.assertEqual(kinds_of(receipts(market)), kinds_of(told))
            below += min(told) < 0
        self.assertGreater(below, 20)

    def test_the_same_whichever_round_is_taken(self):
        for market in itertools.islice(held_markets(72, 16), 0, None, 2):
            first, length = round_of(market)
            for more in (1, length // 2, length - 1, length, 3 * length + 1):
                self.assertEqual(self.by_hand(market, first + more), receipts(market))

    def test_what_was_sold_ahead_of_the_round_does_not_count(self):
        # It rises from -99 on, taken each day.
        self.assertEqual(receipts(([(1, 1, -99)], [[0]])), [0])
        self.assertEqual(receipts(([(1, 1, -99)], [[1]])), [1])


class FirstUnlikeTest(unittest.TestCase):
    def by_hand(self, one, other):
        """The first day of unlike takes, all days looked at until both come round together."""
        first, length = round_of(one)
        second, long = round_of(other)
        days = max(first, second) + math.lcm(length, long)
        told, others = run_by_hand(one, days)[0], run_by_hand(other, days)[0]
        return next((day for day in range(days) if told[day] != others[day]), None)

    def look(self, one, other):
        told = first_unlike(one, other)
        self.assertEqual(kinds_of(told), kinds_of(self.by_hand(one, other)))
        self.assertEqual(kinds_of(first_unlike(other, one)), kinds_of(told))
        return told

    def test_a_market_and_itself(self):
        for market in itertools.chain(held_markets(48, 17), (SLOW,)):
            self.assertIsNone(first_unlike(market, market))
            self.assertIsNone(first_unlike(market, copy.deepcopy(market)))

    def test_at_day_nought(self):
        self.assertEqual(kinds_of(first_unlike(ONE, ([(1, 1, 1)], [[0]]))), kinds_of(0))
        self.assertEqual(self.look(([(2, 1, 0), (2, 1, 0)], [[0, 0]]), ([(2, 1, 1), (2, 1, 0)], [[0, 0]])), 0)

    def test_late(self):
        # They take alike while one is taken at each day, until the one that is worth less is as high as that.
        for worth in (1, 2, 50, 99):
            told = self.look(([(1, 1, -99)], [[worth]]), ([(1, 1, -99)], [[0]]))
            self.assertEqual(told, 100)
        self.assertEqual(self.look(([(1, 1, 99)], [[-1]]), ([(1, 1, 99)], [[-99]])), 100)
        # Behind day 4000, in markets that have but a little more than they need.
        other = (SLOW[0], [SLOW[1][0], [-99, -50, -99]] + SLOW[1][2:])
        self.assertGreater(self.look(SLOW, other), 4000)

    def test_starts_that_are_unlike_and_take_alike_for_ever(self):
        # At sums of 4 a good that is taken up to 1 is taken at 0 and at 1.
        self.assertIsNone(self.look(([(2, 2, 0)], [[1]]), ([(2, 2, 1)], [[1]])))
        self.assertIsNone(self.look(ONE, ([(1, 1, 1)], [[1]])))
        self.assertIsNone(self.look(ONE, ([(4, 4, 3)], [[5]])))

    def test_steps_that_are_unlike(self):
        self.assertIsNone(self.look(([(1, 1, 0)], [[0]]), ([(3, 3, 0)], [[0]])))
        self.assertEqual(self.look(([(1, 1, 0)], [[0]]), ([(2, 1, 0)], [[0]])), 2)

    def test_rounds_of_unlike_lengths(self):
        self.assertIsNone(self.look(ONE, ([(1, 1, 0)], [[0]] * 3)))
        self.assertIsNone(self.look(([(1, 1, 0)], [[0], [0]]), ([(1, 1, 0)], [[0]] * 5)))
        self.assertIsNone(self.look(([(2, 1, 0)], [[0], None, [0]]), ([(2, 1, 0)], [[0]])))
        self.assertEqual(self.look(([(2, 1, 0)], [[0], [0]]), ([(2, 1, 0)], [[0], [0], [0], [0], None])), 9)

    def test_alike_for_longer_than_either_round(self):
        for one, other, told in (
            (([(1, 2, 3)], [[0], [-1], [4], [2]]), ([(1, 2, 1)], [[0], [-2], [2], [-2], [-3]]), 19),
            (([(1, 2, 1)], [[-2], [-2], [2], [-2]]), ([(1, 2, 1)], [[0], [-2], [-2], [-2], [-2]]), 22),
            (([(3, 2, -3)], [None, [-2], None, [4], None, [-1]]), ([(3, 2, -2)], [[-3], [2], [-3], [-1]]), 39),
            (([(4, 1, 2)], [[3], [3], [2], [3]]), ([(4, 1, 2)], [[3], [3], None]), 29),
        ):
            self.assertEqual(self.look(one, other), told)
            first, length = round_of(one)
            second, long = round_of(other)
            self.assertGreater(told, max(first, second) + max(length, long))

    def test_unlike_many_goods(self):
        # A good that nobody has taken yet, as it has a long way to fall.
        wide = ([(1, 1, 0), (4, 1, 99)], [[0, None], [0, -99]])
        self.assertEqual(self.look(([(1, 1, 0)], [[0], [0]]), wide), 199)
        self.assertEqual(self.look(ONE, HELD), self.by_hand(HELD, ONE))
        self.assertIsNotNone(self.look(ONE, HELD))

    def test_all_kinds(self):
        told = []
        markets = list(held_markets(96, 18))
        for one, other in zip(markets, markets[1:]):
            self.look(one, other)
        for one in markets:
            for goods, days in (
                ([(up, down, start - 1 if start > 0 else start + 1) for up, down, start in one[0]], one[1]),
                (one[0], [None if buyer is None else [None if worth is None else max(-99, worth - 1)
                                                      for worth in buyer] for buyer in one[1]]),
                (one[0], one[1][:-1] + [one[1][0]]),
            ):
                if refusal(round_of, (goods, days)) is not NotHeld:
                    told.append(self.look(one, (goods, days)))
        self.assertGreater(told.count(None), 10)
        self.assertGreater(len([day for day in told if day is not None and day > 50]), 10)


class RefusalsTest(unittest.TestCase):
    def test_no_market_ahead_of_all_else(self):
        for thing in list(broken_markets(PLAIN)) + things_of_other_kinds() + [0, turned(HELD), HELD + HELD]:
            for function in OF_ONE:
                self.assertIs(refusal(function, thing), NoMarket)
            for function in OF_DAYS:
                for day in (0, -1, FAR + 1, True, None):
                    self.assertIs(refusal(function, thing, day), NoMarket)
            for other in (HELD, NOBODY, AT_THE_EDGE[0]):
                self.assertIs(refusal(first_unlike, thing, other), NoMarket)
                self.assertIs(refusal(first_unlike, other, thing), NoMarket)
            self.assertIs(refusal(first_unlike, thing, thing), NoMarket)

    def test_not_held_at_the_edge_and_falling(self):
        for market in not_held():
            for function in OF_ONE:
                self.assertIs(refusal(function, market), NotHeld)
            for function in OF_DAYS:
                for day in (0, 1, 4000, FAR):
                    self.assertIs(refusal(function, market, day), NotHeld)
            for other in (HELD, market):
                self.assertIs(refusal(first_unlike, market, other), NotHeld)
                self.assertIs(refusal(first_unlike, other, market), NotHeld)

    def test_an_edge_that_comes_round_is_not_held_either(self):
        market = ([(1, 1, 0)], [[5], None])
        self.assertEqual(takes(market, 6), [0, None] * 3)
        self.assertEqual([refusal(function, market) for function in OF_ONE], [NotHeld] * 4)

    def test_no_day_ahead_of_not_held(self):
        for market in not_held():
            for function in OF_DAYS:
                for day in [-1, FAR + 1, HUGE] + not_whole():
                    self.assertIs(refusal(function, market, day), NoDay)


class ArgumentsTest(unittest.TestCase):
    asked = (
        (round_of, {"market": HELD}), (sold_in_round, {"market": HELD}), (ever, {"market": HELD}),
        (receipts, {"market": HELD}), (far_prices, {"market": HELD, "days": 7}), (far_take, {"market": HELD, "day": 7}),
        (first_unlike, {"market": HELD, "other": ONE}), (far_prices, {"market": HELD, "days": 10 ** 14}),
        (far_prices, {"market": HELD, "days": 0}), (first_unlike, {"market": HELD, "other": HELD}),
    )

    def test_by_place_and_by_name(self):
        assert_told_in_all_ways(self, self.asked)

    def test_nothing_handed_in_is_changed(self):
        for market in held_markets(24, 19):
            handed = copy.deepcopy(market)
            for function in OF_ONE:
                function(handed)
            for function in OF_DAYS:
                function(handed, 12345)
            first_unlike(handed, HELD)
            first_unlike(HELD, handed)
            self.assertEqual(kinds_of(handed), kinds_of(market))

    def test_what_is_told_is_the_askers_own(self):
        for function, named in self.asked:
            if function is not far_take and function is not first_unlike:
                assert_own(self, function, **copy.deepcopy(named))
        for market in held_markets(12, 20):
            for function in (sold_in_round, ever, receipts):
                assert_own(self, function, copy.deepcopy(market))
            for days in (0, 1, 5, 300, FAR):
                assert_own(self, far_prices, copy.deepcopy(market), days)

    def test_the_same_asked_again_behind_other_questions(self):
        markets = list(held_markets(24, 21))
        told = [[kinds_of(function(market)) for function in OF_ONE] for market in markets]
        refusal(round_of, NOBODY)
        refusal(far_prices, HELD, True)
        again = [[kinds_of(function(market)) for function in OF_ONE] for market in reversed(markets)]
        self.assertEqual(again[::-1], told)

    def test_a_market_changed_by_the_asker_is_another_one(self):
        market = copy.deepcopy(ONE)
        self.assertEqual(round_of(market), (0, 2))
        market[1].extend([[0], [0]])
        self.assertEqual(round_of(market), (0, 6))
        market[0][0] = (1, 1, 4)
        self.assertEqual(round_of(market), (3, 6))


if __name__ == "__main__":
    unittest.main()
