"""Points 2, 17, 18 and 19: the worths that a row of takes lets be."""

import copy
import itertools
import unittest
from random import Random

from samples import (
    HUGE, assert_own, assert_told_in_all_ways, kinds_of, not_whole, prices_by_hand, refusal, run_by_hand,
    some_markets, take_by_hand, things_of_other_kinds,
)
from soldrises.errors import NoGoods, NoLength, NoRow, NoWorths
from soldrises.runs import takes
from soldrises.seen import lets_be, worths_let

BILLION = 10 ** 9
# One good, whose sum is 2, and two of them.
ONE = [(1, 1, 0)]
TWO = [(1, 1, 0), (1, 1, 0)]
# What is no list of goods.
NO_GOODS = [
    [], [(1, 1, 0)] * 5, [(0, 1, 0)], [(1, 0, 0)], [(5, 1, 0)], [(1, 5, 0)], [(-1, 1, 0)], [(1, 1, 100)],
    [(1, 1, -100)], [(1, 1, HUGE)], [(True, 1, 0)], [(1, True, 0)], [(1, 1, True)], [(1, 1, False)], [(1, 1, None)],
    [("1", 1, 0)], [(1, 1)], [(1, 1, 0, 0)], [[1, 1, 0]], [(1, 1, 0), None], [None], ((1, 1, 0),), (1, 1, 0), [0],
    {0: (1, 1, 0)}, (ONE, [[0]]), ONE + [[1, 1, 0]], [ONE],
]
NO_LENGTHS = [0, 7, 8, -1, -6, HUGE, -HUGE, True, False, None, "1", "one", "", [1], (1,), {1}, b"1"]
# What is no row of two goods.
NO_ROWS = [
    [], [None] * 301, [0] * 301, [2], [-1], [0, 2], [0, 1, -1], [HUGE], [True], [False], [0, True], ["0"], ["-"], [""],
    [[0]], [(0,)], [[]], None, True, 0, 1, "", "0", "01", b"\x00", (), (0,), (0, 1, None), {0: 0}, {0}, range(2),
]


def is_row_of_two(thing):
    return type(thing) is list and thing != [] and all(take is None or type(take) is int and 0 <= take <= 1
                                                       for take in thing)


def prices_ahead_by_hand(goods, row):
    """The prices ahead of each day of a row, and behind it."""
    ahead = [[start for _, _, start in goods]]
    for take in row:
        ahead.append(prices_by_hand(goods, ahead[-1], take))
    return ahead


def lets_by_run(goods, worths, row):
    return run_by_hand((goods, worths), len(row))[0] == row


def span_of(goods, row):
    """Worths from below all prices of a row to far enough above them for all that is told."""
    prices = [price for ahead in prices_ahead_by_hand(goods, row) for price in ahead]
    wide = max(prices) - min(prices)
    return range(min(prices) - 2, max(prices) + wide * (len(goods) - 1) + 3)


def buyers_of(goods, span):
    return [list(buyer) for buyer in itertools.product([None, *span], repeat=len(goods))]


def bounds_of(buyers, top):
    """The least and the greatest worths of some buyers, None where they may be unwanted and where they reach beyond
    the top."""
    least, greatest = [], []
    for of_good in zip(*buyers):
        least.append(None if None in of_good else min(of_good))
        most = max((worth for worth in of_good if worth is not None), default=None)
        greatest.append(None if most > top else most)
    return least, greatest


def can_be(goods, row, days):
    """Whether some worths do for some days of a row: pushed up for as long as something asks for it."""
    ahead = prices_ahead_by_hand(goods, row)
    worths = [None] * len(goods)
    for day in days:
        if row[day] is not None:
            price = ahead[day][row[day]]
            worths[row[day]] = price if worths[row[day]] is None else max(price, worths[row[day]])
    prices = [price for behind in ahead for price in behind]
    bound = max(prices) + (max(prices) - min(prices) + 1) * len(goods)
    while True:
        amiss = [day for day in days if take_by_hand(worths, ahead[day]) != row[day]]
        if not amiss:
            return True
        take = row[amiss[0]]
        if take is None:
            return False
        worths[take] += 1
        if worths[take] > bound:
            return False


def some_goods(chance, wide, most=4, span=20):
    return [(chance.randint(1, most), chance.randint(1, most), chance.randint(-span, span)) for _ in range(wide)]


def seen_rows(many, seed, long=300, span=20):
    """Goods, rounds of worths, and the rows to which they run."""
    chance = Random(seed)
    for number in range(many):
        goods = some_goods(chance, number % 4 + 1)
        wanted = chance.choice((50, 80, 100))
        worths = []
        for _ in range(number // 4 % 6 + 1):
            buyer = [chance.randint(-span, span) if chance.randrange(100) < wanted else None for _ in goods]
            worths.append(None if chance.randrange(8) == 0 else buyer)
        yield goods, worths, run_by_hand((goods, worths), chance.randint(1, long))[0]


def spoilt_rows(many, seed, long=40):
    """Goods, lengths and rows that mostly can't be: of a run with some takes otherwise, or by chance alone."""
    chance = Random(seed)
    for number, (goods, worths, row) in enumerate(seen_rows(many, seed, long)):
        for _ in range(chance.randint(1, 3)):
            row[chance.randrange(len(row))] = chance.choice([None, *range(len(goods))])
        if number % 5 == 0:
            row = [chance.choice([None, *range(len(goods))]) for _ in row]
        yield goods, len(worths), row


def days_refused(goods, length, row):
    """The days with which a row is refused, or None."""
    try:
        worths_let(goods, length, row)
    except NoWorths as error:
        return error.days
    return None


class WorthsLetTest(unittest.TestCase):
    def test_reckoned_by_hand(self):
        # Taken at 0.
        self.assertEqual(kinds_of(worths_let(ONE, 1, [0])), kinds_of([([0], [None])]))
        # Not taken at 0.
        self.assertEqual(kinds_of(worths_let(ONE, 1, [None])), kinds_of([([None], [-1])]))
        # Taken at 0 and not at 1.
        self.assertEqual(kinds_of(worths_let(ONE, 1, [0, None])), kinds_of([([0], [0])]))
        # Taken at 0, 1 and 2, then not at 3.
        self.assertEqual(worths_let(ONE, 1, [0, 0, 0, None]), [([2], [2])])
        # The same with a day of the round for each, and with each other day of the same one.
        self.assertEqual(worths_let(ONE, 4, [0, 0, 0, None]),
                         [([0], [None]), ([1], [None]), ([2], [None]), ([None], [2])])
        self.assertEqual(worths_let(ONE, 2, [0, 0, 0, None]), [([2], [None]), ([1], [2])])

    def test_two_goods_by_hand(self):
        # The first is taken: it is worth no less than the other, which may be unwanted.
        self.assertEqual(worths_let(TWO, 1, [0]), [([0, None], [None, None])])
        # The second is taken at 0 0: it is worth more than the first where that is wanted.
        self.assertEqual(worths_let(TWO, 1, [1]), [([None, 0], [None, None])])
        # At 0 0 the first, at 1 -1 the second.
        self.assertEqual(worths_let(TWO, 1, [0, 1]), [([0, -1], [None, None])])
        # Then none at 0 0, where the first was taken.
        self.assertEqual(days_refused(TWO, 1, [0, 1, None]), [0, 2])
        # At 0 0 the second, at -1 1 none.
        self.assertEqual(worths_let(TWO, 1, [1, None]), [([None, 0], [-2, 0])])
        # At 0 0 the second, at -1 1 the first, at 0 0 the second again: it's worth more than the first.
        self.assertEqual(worths_let(TWO, 1, [1, 0, 1]), [([-1, 0], [None, None])])
        # At 0 9 the first, at 1 8 it again, at 2 7 the second: worth at least 7, and at least 6 more than the first.
        goods = [(1, 1, 0), (1, 1, 9)]
        self.assertEqual(worths_let(goods, 1, [0, 0, 1]), [([1, 7], [None, None])])
        # Then none at 1 8, where the first was taken at 1.
        self.assertEqual(days_refused(goods, 1, [0, 0, 1, None]), [1, 3])

    def test_the_first_of_several(self):
        # At 0 0 the first: the other may be worth as much. At 0 0 the second: the first may not.
        self.assertIs(lets_be(TWO, [[5, 5]], [0]), True)
        self.assertIs(lets_be(TWO, [[5, 5]], [1]), False)
        # And none at 1 -1, which asks for less of the other one.
        self.assertEqual(worths_let(TWO, 1, [0, None]), [([0, None], [0, -2])])

    def test_greatest_by_another_good(self):
        # At 0 0 the first, and three days later none at 1 2: the other may be worth just as much as the first.
        told = worths_let([(1, 1, 0), (4, 1, 0)], 3, [0, 0, 1, None])
        self.assertEqual(told, [([0, None], [0, 0]), ([1, None], [None, None]), ([None, -2], [None, None])])
        # The same with the other one ahead: it must be worth less.
        told = worths_let([(4, 1, 0), (1, 1, 0)], 3, [1, 1, 0, None])
        self.assertEqual(told, [([None, 0], [-1, 0]), ([None, 1], [None, None]), ([-2, None], [None, None])])

    def test_greatest_by_all_other_goods_in_turn(self):
        # Each is bounded by the next one, and the last one by the day at which nothing was taken.
        for goods, row, told in (
            ([(3, 2, 10), (1, 1, -9), (4, 4, -5), (1, 4, 7)], [2, 2, 2, None, 2, 3, 1, 3, 2, 3, 2, 3, 0],
             [-2, -13, 4, -10]),
            ([(2, 1, -10), (1, 2, 1), (4, 3, 7), (1, 4, 6)], [None] * 5 + [3, 2, 3, 3, 0, 2, 3, 3, 1, 3, 2, 3],
             [-15, -14, -9, -12]),
        ):
            self.assertEqual(worths_let(goods, 1, row)[0][1], told)
            self.assertTrue(lets_by_run(goods, [told], row))
            for good in range(4):
                other = list(told)
                other[good] += 1
                self.assertFalse(lets_by_run(goods, [other], row))

    def test_least_by_another_good(self):
        # At 0 0 the first, three days later at 7 2 the second: it is worth 2 at least, and the first no less.
        goods = [(4, 1, 0), (4, 1, 0)]
        self.assertEqual(worths_let(goods, 3, [0, 0, 1, 1])[0], ([2, 2], [None, None]))
        # The same with the second at 0 0: it is worth more than the first.
        self.assertEqual(worths_let(goods, 3, [1, 1, 0, 0])[0], ([2, 3], [None, None]))
        chance = Random(3)
        raised = 0
        for _ in range(3000):
            goods = some_goods(chance, 3, most=3, span=2)
            row = [chance.choice((None, 0, 1, 2)) for _ in range(6)]
            if days_refused(goods, 1, row) is None:
                (least, _), = worths_let(goods, 1, row)
                ahead = prices_ahead_by_hand(goods, row)
                for good in range(3):
                    floors = [ahead[day][good] for day in range(6) if row[day] == good]
                    self.assertEqual(least[good] is None, not floors)
                    if floors:
                        self.assertGreaterEqual(least[good], max(floors))
                        raised += least[good] > max(floors)
        self.assertGreater(raised, 20)

    def look_by_runs(self, goods, length, row):
        """Each day of the round gone through by itself, with what is told of the others; True where the row can be."""
        span = span_of(goods, row)
        ahead = prices_ahead_by_hand(goods, row)
        buyers = buyers_of(goods, span)
        top = max(price for prices in ahead for price in prices)
        amiss = days_refused(goods, length, row)
        if amiss is not None:
            of_day = list(range(amiss[0] % length, len(row), length))
            letting = [buyer for buyer in buyers
                       if all(take_by_hand(buyer, ahead[day]) == row[day] for day in of_day)]
            self.assertEqual(letting, [])
            return False
        told = worths_let(goods, length, row)
        for at in range(length):
            letting = []
            for buyer in buyers:
                worths = [least for least, _ in told]
                worths[at] = buyer
                if lets_by_run(goods, worths, row):
                    letting.append(buyer)
            self.assertEqual(kinds_of(told[at]), kinds_of(bounds_of(letting, top)), (goods, length, row, at))
        return True

    def test_against_all_worths_of_a_span(self):
        chance = Random(4)
        seen = []
        for number in range(260):
            goods = some_goods(chance, number % 2 + 1, most=2, span=2)
            row = [chance.choice([None, *range(len(goods))]) for _ in range(chance.randint(1, 5))]
            seen.append(self.look_by_runs(goods, chance.randint(1, 3), row))
        self.assertGreater(seen.count(True), 40)
        self.assertGreater(seen.count(False), 10)

    def test_three_goods_against_all_worths_of_a_span(self):
        chance = Random(5)
        for _ in range(10):
            goods = some_goods(chance, 3, most=1, span=1)
            row = [chance.choice((None, 0, 1, 2)) for _ in range(chance.randint(2, 4))]
            self.look_by_runs(goods, chance.randint(1, 2), row)

    def test_rounds_of_two_days_whole(self):
        # All rounds of two buyers at once, not one day by itself.
        chance = Random(6)
        seen = []
        for _ in range(60):
            goods = some_goods(chance, 1, most=3, span=3)
            row = [chance.choice((None, 0)) for _ in range(chance.randint(1, 7))]
            span = span_of(goods, row)
            letting = [worths for worths in itertools.product(buyers_of(goods, span), repeat=2)
                       if lets_by_run(goods, list(worths), row)]
            amiss = days_refused(goods, 2, row)
            self.assertEqual(amiss is None, letting != [])
            seen.append(amiss is None)
            if amiss is None:
                top = max(price for prices in prices_ahead_by_hand(goods, row) for price in prices)
                told = [bounds_of(buyers, top) for buyers in zip(*letting)]
                self.assertEqual(kinds_of(worths_let(goods, 2, row)), kinds_of(told))
        self.assertGreater(seen.count(True), 10)
        self.assertGreater(seen.count(False), 10)

    def test_the_least_ones_together_let_the_row_be(self):
        for goods, worths, row in seen_rows(240, 7):
            told = worths_let(goods, len(worths), row)
            self.assertEqual(len(told), len(worths))
            self.assertIs(lets_be(goods, [least for least, _ in told], row), True)
            self.assertTrue(lets_by_run(goods, [least for least, _ in told], row))

    def test_the_worths_of_a_run_are_within_what_is_told(self):
        for goods, worths, row in seen_rows(240, 8):
            for buyer, (least, greatest) in zip(worths, worths_let(goods, len(worths), row)):
                for worth, low, high in zip(buyer or [None] * len(goods), least, greatest):
                    if worth is None:
                        self.assertIsNone(low)
                    else:
                        self.assertTrue((low is None or low <= worth) and (high is None or worth <= high))

    def test_one_lower_or_one_higher_can_not_be(self):
        lower = higher = 0
        for goods, worths, row in seen_rows(160, 9, long=120):
            told = worths_let(goods, len(worths), row)
            least = [low for low, _ in told]
            for at, good in itertools.product(range(len(worths)), range(len(goods))):
                if least[at][good] is not None:
                    other = copy.deepcopy(least)
                    other[at][good] -= 1
                    self.assertIs(lets_be(goods, other, row), False)
                    lower += 1
                high = told[at][1]
                if high[good] is not None:
                    other = copy.deepcopy(least)
                    other[at] = list(high)
                    self.assertIs(lets_be(goods, other, row), True)
                    other[at][good] += 1
                    self.assertIs(lets_be(goods, other, row), False)
                    higher += 1
        self.assertGreater(min(lower, higher), 200)

    def test_where_there_is_no_greatest(self):
        free = 0
        for goods, worths, row in seen_rows(160, 10, long=120):
            told = worths_let(goods, len(worths), row)
            for at, (least, greatest) in enumerate(told):
                of_day = row[at::len(worths)]
                self.assertEqual(greatest.count(None), 0 if None in of_day else len(goods))
                self.assertEqual([good for good, low in enumerate(least) if low is None],
                                 [good for good in range(len(goods)) if good not in of_day])
                if None not in of_day:
                    # All wanted ones may be higher together.
                    other = [low for low, _ in told]
                    other[at] = [None if low is None else low + 900000 for low in least]
                    self.assertIs(lets_be(goods, other, row), True)
                    free += 1
        self.assertGreater(free, 40)

    def test_days_of_the_round_of_which_the_row_has_none(self):
        for goods in (ONE, TWO, ONE * 4):
            nothing = ([None] * len(goods), [None] * len(goods))
            for length in range(2, 7):
                told = worths_let(goods, length, [0])
                self.assertEqual(kinds_of(told[1:]), kinds_of([nothing] * (length - 1)))
                self.assertEqual(worths_let(goods, length, [None, 0])[2:], [nothing] * (length - 2))

    def test_rows_of_one_day_and_of_three_hundred(self):
        self.assertEqual(worths_let([(4, 4, 99)] * 4, 1, [3]), [([None, None, None, 99], [None] * 4)])
        self.assertEqual(worths_let([(4, 4, -99)] * 4, 1, [None]), [([None] * 4, [-100] * 4)])
        goods = [(4, 1, 0)]
        self.assertEqual(worths_let(goods, 1, [0] * 300), [([299 * 4], [None])])
        self.assertEqual(worths_let(goods, 1, [None] * 300), [([None], [-300])])
        self.assertEqual(worths_let(goods, 1, [0] * 299 + [None]), [([298 * 4], [299 * 4 - 1])])
        self.assertEqual(worths_let(goods, 6, [None] * 300), [([None], [-295 - at]) for at in range(6)])

    def test_kinds(self):
        for goods, worths, row in seen_rows(24, 11):
            told = worths_let(goods, len(worths), row)
            self.assertIs(type(told), list)
            for pair in told:
                self.assertIs(type(pair), tuple)
                self.assertEqual([type(part) for part in pair], [list, list])
                self.assertEqual([len(part) for part in pair], [len(goods)] * 2)
                self.assertLessEqual({type(worth) for part in pair for worth in part}, {int, type(None)})


class NoWorthsTest(unittest.TestCase):
    def look(self, goods, length, row, days):
        """A look at the days with which a row was refused."""
        self.assertIs(type(days), list)
        self.assertEqual({type(day) for day in days}, {int})
        self.assertEqual(days, sorted(set(days)))
        self.assertTrue(0 <= days[0] and days[-1] < len(row))
        self.assertEqual(len({day % length for day in days}), 1)
        self.assertFalse(can_be(goods, row, days))
        for day in days:
            self.assertTrue(can_be(goods, row, [other for other in days if other != day]))

    def test_reckoned_by_hand(self):
        # Taken at 0, not at 1, not at 0.
        self.assertEqual(kinds_of(days_refused(ONE, 1, [0, None, None])), kinds_of([0, 2]))
        # Not at 0, at -1, then at 0.
        self.assertEqual(days_refused(ONE, 1, [None, 0, 0]), [0, 2])
        self.assertEqual(days_refused(ONE, 2, [None, 0, 0]), [0, 2])
        self.assertIsNone(days_refused(ONE, 3, [None, 0, 0]))
        # Not at 1 and then at 1, at the second day of the round; at its first it is at 0 each time.
        self.assertEqual(days_refused(ONE, 2, [0, None, 0, 0]), [1, 3])

    def test_three_days_and_more(self):
        # At 6 -7 the second is taken, at 4 -5 none, at 2 -9 the first: it is worth at least 11 more than the second,
        # so at least 4, and below 4.
        self.assertEqual(days_refused([(2, 2, 8), (2, 4, -3)], 1, [None, 1, None, 0]), [1, 2, 3])
        goods = [(4, 3, 20), (4, 1, 7), (1, 1, -19), (1, 2, -1)]
        row = [2, 2, None, None, 0, 3, None, 3, 0, None, 2, 3]
        self.look(goods, 1, row, days_refused(goods, 1, row))
        found = {}
        for goods, length, row in spoilt_rows(1200, 12):
            days = days_refused(goods, length, row)
            if days is not None:
                found.setdefault(len(days), []).append(days)
                self.look(goods, length, row, days)
        self.assertGreater(len(found[2]), 50)
        self.assertGreater(len(found[3]), 5)

    def test_just_where_the_row_can_not_be(self):
        seen = []
        for goods, length, row in spoilt_rows(600, 13):
            days = days_refused(goods, length, row)
            alone = [can_be(goods, row, range(at, len(row), length)) for at in range(length)]
            self.assertEqual(days is None, all(alone))
            if days is not None:
                self.assertFalse(alone[days[0] % length])
            seen.append(days is None)
        self.assertGreater(min(seen.count(True), seen.count(False)), 50)

    def test_part_of_them_by_all_worths_of_a_span(self):
        chance = Random(14)
        refused = 0
        for number in range(300):
            goods = some_goods(chance, number % 2 + 1, most=2, span=2)
            length = chance.randint(1, 2)
            row = [chance.choice([None, *range(len(goods))]) for _ in range(chance.randint(2, 6))]
            days = days_refused(goods, length, row)
            if days is None:
                continue
            refused += 1
            ahead = prices_ahead_by_hand(goods, row)
            buyers = buyers_of(goods, span_of(goods, row))
            for many in range(len(days) + 1):
                for part in itertools.combinations(days, many):
                    letting = any(all(take_by_hand(buyer, ahead[day]) == row[day] for day in part)
                                  for buyer in buyers)
                    self.assertEqual(letting, many < len(days))
        self.assertGreater(refused, 50)

    def test_rows_of_three_hundred_days(self):
        for goods, worths, row in itertools.islice(seen_rows(48, 15), 0, None, 4):
            whole = run_by_hand((goods, worths), 300)[0]
            for day in (0, 150, 299):
                for take in [None, *range(len(goods))]:
                    other = whole[:day] + [take] + whole[day + 1:]
                    days = days_refused(goods, len(worths), other)
                    if days is not None:
                        self.look(goods, len(worths), other, days)
                    else:
                        told = worths_let(goods, len(worths), other)
                        self.assertTrue(lets_by_run(goods, [least for least, _ in told], other))

    def test_a_single_day_can_always_be(self):
        for take in (None, 0, 1, 2, 3):
            self.assertIsNone(days_refused([(1, 4, -99), (4, 1, 99), (2, 2, 0), (3, 3, 5)], 1, [take]))


class LetsBeTest(unittest.TestCase):
    def test_reckoned_by_hand(self):
        for worths, row, told in (
            ([[0]], [0], True), ([[-1]], [0], False), ([[-1]], [None], True), ([[None]], [None], True),
            ([None], [None], True), ([None], [0], False), ([[0]], [0, None, 0, None], True), ([[0]], [0, 0], False),
            ([[0], [1]], [0, 0, None, 0], True), ([[0], [1]], [0, 0, None, None], False),
            ([[0], None], [0, None, 0, None], True),
            ([[0], None], [0, None, None], False),
        ):
            self.assertIs(lets_be(ONE, worths, row), told, (worths, row))

    def test_a_round_and_its_own_run(self):
        for market in some_markets(120):
            for days in (1, 2, 7, 60, 300):
                self.assertIs(lets_be(market[0], market[1], takes(market, days)), True)

    def test_one_days_take_otherwise(self):
        for market in some_markets(40):
            row = takes(market, 40)
            for day in (0, 1, 5, 20, 39):
                for take in [None, *range(len(market[0]))]:
                    other = row[:day] + [take] + row[day + 1:]
                    self.assertIs(lets_be(market[0], market[1], other), take == row[day])

    def test_all_rows_of_a_few_days(self):
        for market in some_markets(40):
            own = takes(market, 3)
            for row in itertools.product([None, *range(len(market[0]))], repeat=3):
                self.assertIs(lets_be(market[0], market[1], list(row)), list(row) == own)

    def test_fewer_days_than_the_rounds_length(self):
        for market in some_markets(80):
            for days in range(1, len(market[1])):
                self.assertIs(lets_be(market[0], market[1], takes(market, days)), True)

    def test_worths_to_nine_figures(self):
        most = BILLION - 1
        self.assertIs(lets_be(TWO, [[most, most]], [0, 1] * 150), True)
        self.assertIs(lets_be(TWO, [[most, most]], [0, 1] * 149 + [0, 0]), False)
        self.assertIs(lets_be(TWO, [[-most, most]], [1] * 300), True)
        self.assertIs(lets_be(TWO, [[-most, -most]], [None] * 300), True)
        self.assertIs(lets_be(TWO, [[-most, -most]], [None] * 299 + [0]), False)
        self.assertIs(lets_be(TWO, [[most - 1, most], [None, -most], None], [1, None, None, 0, None, None]), True)
        self.assertIs(lets_be(TWO, [[most - 1, most], [None, -most], None], [1, None, None, 1, None, None]), False)

    def test_nothing_wanted_and_nobody(self):
        for worths in ([None], [[None, None]], [None] * 6, [[None, None], None] * 3):
            self.assertIs(lets_be(TWO, worths, [None] * 300), True)
            self.assertIs(lets_be(TWO, worths, [None] * 299 + [1]), False)
            self.assertIs(lets_be(TWO, worths, [0]), False)


class RefusalsTest(unittest.TestCase):
    def test_no_goods(self):
        for goods in NO_GOODS + things_of_other_kinds() + not_whole():
            self.assertIs(refusal(worths_let, goods, 1, [0]), NoGoods, goods)
            self.assertIs(refusal(lets_be, goods, [[0]], [0]), NoGoods, goods)

    def test_no_length(self):
        for length in NO_LENGTHS + not_whole():
            self.assertIs(refusal(worths_let, TWO, length, [0, 1]), NoLength, length)
        for length in range(1, 7):
            self.assertIsInstance(refusal(worths_let, TWO, length, [0, 1]), tuple)

    def test_no_row(self):
        for row in NO_ROWS:
            self.assertIs(refusal(worths_let, TWO, 1, row), NoRow, row)
            self.assertIs(refusal(lets_be, TWO, [[0, 0]], row), NoRow, row)
        for thing in things_of_other_kinds():
            for row in (thing, [thing], [0, thing], [thing, None]):
                if not is_row_of_two(row):
                    self.assertIs(refusal(worths_let, TWO, 1, row), NoRow, row)
                    self.assertIs(refusal(lets_be, TWO, [[0, 0]], row), NoRow, row)

    def test_goods_that_there_are(self):
        for many in range(1, 5):
            goods = [(1, 1, 0)] * many
            for take in range(-2, 6):
                told = refusal(worths_let, goods, 1, [take])
                self.assertEqual(told is NoRow, not 0 <= take < many)
                told = refusal(lets_be, goods, [[0] * many], [take])
                self.assertEqual(told is NoRow, not 0 <= take < many)

    def test_order_of_refusals(self):
        for goods in NO_GOODS:
            for length, row in itertools.product([1] + NO_LENGTHS[:9], [[0], [0, None, None]] + NO_ROWS[:9]):
                self.assertIs(refusal(worths_let, goods, length, row), NoGoods)
                self.assertIs(refusal(lets_be, goods, [[0]], row), NoGoods)
        for length, row in itertools.product(NO_LENGTHS, [[0, None, None]] + NO_ROWS):
            self.assertIs(refusal(worths_let, TWO, length, row), NoLength)
        # A take of a good that there is not goes ahead of days that can't be.
        self.assertIs(refusal(worths_let, ONE, 1, [0, None, None]), NoWorths)
        self.assertIs(refusal(worths_let, ONE, 1, [0, None, None, 1]), NoRow)

    def test_length_of_a_row(self):
        self.assertIsInstance(refusal(worths_let, ONE, 1, [None] * 300), tuple)
        self.assertIs(refusal(worths_let, ONE, 1, [None] * 301), NoRow)
        self.assertIs(lets_be(ONE, [None], [None] * 300), True)
        self.assertIs(refusal(lets_be, ONE, [None], [None] * 301), NoRow)
        self.assertIs(refusal(lets_be, ONE, [None], []), NoRow)


class ArgumentsTest(unittest.TestCase):
    asked = (
        (worths_let, {"goods": TWO, "length": 3, "row": [0, 1, None, 0]}),
        (worths_let, {"goods": ONE, "length": 6, "row": [0]}), (worths_let, {"goods": TWO, "length": 4, "row": [None]}),
        (lets_be, {"goods": TWO, "worths": [[0, 0], None], "row": [0, None]}),
    )

    def test_by_place_and_by_name(self):
        assert_told_in_all_ways(self, self.asked)

    def test_what_is_told_is_the_askers_own(self):
        for function, named in self.asked[:3]:
            assert_own(self, function, **copy.deepcopy(named))
        for goods, worths, row in seen_rows(48, 16):
            assert_own(self, worths_let, goods, len(worths), row)

    def test_nothing_handed_in_is_changed(self):
        for goods, worths, row in seen_rows(48, 17):
            handed = copy.deepcopy((goods, worths, row))
            worths_let(handed[0], len(worths), handed[2])
            lets_be(*handed)
            self.assertEqual(kinds_of(handed), kinds_of((goods, worths, row)))
        for goods, length, row in spoilt_rows(100, 18):
            handed = copy.deepcopy((goods, length, row))
            refusal(worths_let, *handed)
            self.assertEqual(kinds_of(handed), kinds_of((goods, length, row)))

    def test_days_of_a_refusal_are_the_askers_own(self):
        for goods, length, row in spoilt_rows(100, 19):
            days = days_refused(goods, length, row)
            if days is not None:
                kept = list(days)
                days.clear()
                self.assertEqual(days_refused(goods, length, row), kept)

    def test_the_same_asked_again_behind_other_questions(self):
        asked = list(spoilt_rows(100, 20))
        told = [(kinds_of(refusal(worths_let, *one)), days_refused(*one)) for one in asked]
        again = [(kinds_of(refusal(worths_let, *one)), days_refused(*one)) for one in reversed(asked)]
        self.assertEqual(again[::-1], told)


if __name__ == "__main__":
    unittest.main()
