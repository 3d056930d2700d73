"""Points 2, 3, 12, 13 and 14: sets, dealings, and the verdict by which prices stay within bounds or fall."""

import copy
import itertools
import unittest
from fractions import Fraction
from random import Random

from samples import (
    AT_THE_EDGE, HELD, HUGE, NOBODY, PLAIN, all_sets, assert_own, assert_told_in_all_ways, broken_markets,
    had_by_hand, kinds_of, need_by_hand, not_whole, refusal, some_markets, things_of_other_kinds, turned, wanting,
)
from soldrises.dealings import does_fall, does_hold, has, needs, verdict
from soldrises.errors import NoGoods, NoMarket
from soldrises.runs import prices_at

BILLION = 1000000000


def is_right_dealing(market, dealing):
    """A look at a told dealing: its kinds, and that none gets what he doesn't want, nor all more than the day is."""
    parts, bottom = dealing
    if type(dealing) is not tuple or type(parts) is not list or type(bottom) is not int:
        return False
    if not 1 <= bottom <= BILLION or len(parts) != len(market[1]):
        return False
    for day, buyer in zip(parts, market[1]):
        if type(day) is not list or len(day) != len(market[0]) or sum(day) > bottom:
            return False
        for good, part in enumerate(day):
            if type(part) is not int or part < 0 or (part > 0 and (buyer is None or buyer[good] is None)):
                return False
    return True


def holds_by_hand(market, dealing):
    parts, bottom = dealing
    return is_right_dealing(market, dealing) and all(
        Fraction(sum(day[good] for day in parts), bottom) > need_by_hand(market, [good])
        for good in range(len(market[0])))


def markets_of_all_kinds(many, seed):
    """Markets of one good to four and one day to six, each thing wanted by many or by few."""
    chance = Random(seed)
    for number in range(many):
        wide, long = number % 4 + 1, number // 4 % 6 + 1
        wanted, comes = chance.choice((30, 60, 90, 100)), chance.choice((50, 80, 100))
        falls = chance.choice((1, 2, 4))
        goods = [(chance.randint(1, 4), chance.randint(1, falls), chance.randint(-20, 20)) for _ in range(wide)]
        days = []
        for _ in range(long):
            buyer = [chance.randint(-20, 20) if chance.randrange(100) < wanted else None for _ in range(wide)]
            days.append(buyer if chance.randrange(100) < comes else None)
        yield goods, days


class NeedsTest(unittest.TestCase):
    def test_reckoned_by_hand(self):
        # The shares are 2/3 and 1/4, and there are three days.
        self.assertEqual(kinds_of(needs(PLAIN, [0])), kinds_of((2, 1)))
        self.assertEqual(kinds_of(needs(PLAIN, [1])), kinds_of((3, 4)))
        self.assertEqual(kinds_of(needs(PLAIN, [0, 1])), kinds_of((11, 4)))

    def test_all_sets_in_lowest_terms(self):
        for market in some_markets(80) + [PLAIN, NOBODY, HELD]:
            for goods in all_sets(market):
                need = need_by_hand(market, goods)
                self.assertEqual(kinds_of(needs(market, goods)), kinds_of((need.numerator, need.denominator)))

    def test_all_steps(self):
        for up, down in itertools.product((1, 2, 3, 4), repeat=2):
            for days in range(1, 7):
                need = Fraction(down * days, up + down)
                told = needs(([(up, down, 0)], [None] * days), [0])
                self.assertEqual(told, (need.numerator, need.denominator))

    def test_neither_buyers_nor_starts_matter(self):
        for market in some_markets(20):
            other = ([(up, down, 0) for up, down, _ in market[0]], [None] * len(market[1]))
            for goods in all_sets(market):
                self.assertEqual(needs(market, goods), needs(other, goods))


class HasTest(unittest.TestCase):
    def test_reckoned_by_hand(self):
        self.assertEqual(kinds_of([has(PLAIN, goods) for goods in ([0], [1], [0, 1])]), kinds_of([1, 2, 2]))
        market = wanting("x---", "-x--", "nobody", "----", "-xx-", "xxxx")
        told = {tuple(goods): has(market, goods) for goods in all_sets(market)}
        self.assertEqual([told[at,] for at in range(4)], [2, 3, 2, 1])
        self.assertEqual((told[0, 1], told[0, 3], told[1, 2], told[2, 3], told[0, 1, 2, 3]), (4, 2, 3, 2, 4))

    def test_all_sets(self):
        for market in some_markets(80) + [PLAIN, NOBODY, HELD]:
            for goods in all_sets(market):
                self.assertEqual(kinds_of(has(market, goods)), kinds_of(had_by_hand(market, goods)))

    def test_days_of_like_buyers_are_each_a_day(self):
        self.assertEqual(has(([(1, 1, 0)], [[0]] * 6), [0]), 6)

    def test_what_a_good_is_worth_does_not_matter(self):
        self.assertEqual(has(([(1, 1, 99)], [[-99], [0], [99], [None], None]), [0]), 3)


class SetsTest(unittest.TestCase):
    def test_all_sets_are_sets(self):
        for many in (1, 2, 3, 4):
            market = ([(1, 1, 0)] * many, [[0] * many])
            self.assertEqual(len(all_sets(market)), 2 ** many - 1)
            for goods in all_sets(market):
                self.assertEqual(needs(market, goods), (len(goods), 2) if len(goods) % 2 else (len(goods) // 2, 1))
                self.assertEqual(has(market, goods), 1)

    def test_no_goods(self):
        three = ([(1, 4, 0)] * 3, [None])
        for thing in (
            [], [1, 0], [2, 1], [0, 2, 1], [1, 2, 0], [0, 0], [1, 1], [0, 1, 1], [2, 2, 2], [3], [0, 3], [-1], [-1, 0],
            [-3], [HUGE], [0, HUGE], [-HUGE], [True], [False], [False, True], [0, True], ["0"], ["0", "1"], [None],
            [0, None], [[0]], [(0,)], (), (0,), (0, 1), ((0, 1),), "", "0", "01", b"\x00", None, True, 0, 1, {0},
            {0: 1}, range(2), [0, 1, 2, 3], [0] * 400, list(range(400)),
        ):
            self.assertIs(refusal(needs, three, thing), NoGoods, thing)
            self.assertIs(refusal(has, three, thing), NoGoods, thing)
            self.assertIs(does_fall(three, thing), False, thing)
        for goods in all_sets(three):
            self.assertIs(does_fall(three, goods), True)

    def test_no_goods_of_anything(self):
        for thing in things_of_other_kinds() + not_whole():
            for goods in ([thing], [0, thing], [thing, 1]):
                self.assertIs(refusal(needs, NOBODY, goods), NoGoods, goods)
                self.assertIs(refusal(has, NOBODY, goods), NoGoods, goods)
                self.assertIs(does_fall(NOBODY, goods), False)
            if thing != [0] and thing != [1]:
                self.assertIs(refusal(needs, NOBODY, thing), NoGoods, thing)
                self.assertIs(refusal(has, NOBODY, thing), NoGoods, thing)
                self.assertIs(does_fall(NOBODY, thing), False)

    def test_the_number_of_goods_is_the_markets(self):
        for many in (1, 2, 3, 4):
            market = ([(1, 1, 0)] * many, [None])
            self.assertEqual(has(market, [many - 1]), 0)
            self.assertIs(refusal(has, market, [many]), NoGoods)


class VerdictTest(unittest.TestCase):
    def look(self, market):
        """The word of the verdict, when all that is told has been gone through."""
        told = verdict(market)
        self.assertIs(type(told), tuple)
        self.assertEqual(len(told), 2)
        word, thing = told
        over = [need_by_hand(market, goods) - had_by_hand(market, goods) for goods in all_sets(market)]
        if max(over) > 0:
            self.assertEqual(word, "falls")
            self.assertIn(kinds_of(thing), [kinds_of(goods) for goods in all_sets(market)])
            self.assertGreater(need_by_hand(market, thing), had_by_hand(market, thing))
            self.assertIs(does_fall(market, thing), True)
        elif max(over) == 0:
            self.assertEqual(word, "edge")
            self.assertIn(kinds_of(thing), [kinds_of(goods) for goods in all_sets(market)])
            self.assertEqual(need_by_hand(market, thing), had_by_hand(market, thing))
        else:
            self.assertEqual(word, "holds")
            self.assertTrue(holds_by_hand(market, thing), (market, thing))
            self.assertIs(does_hold(market, thing), True)
        for goods, more in zip(all_sets(market), over):
            self.assertIs(does_fall(market, goods), more > 0)
        self.assertEqual(kinds_of(verdict(market)), kinds_of(told))
        return word

    def test_markets_of_all_kinds(self):
        seen = {}
        for market in markets_of_all_kinds(2400, 1):
            of_word = seen.setdefault(self.look(market), [])
            of_word.append((len(market[0]), len(market[1])))
        self.assertEqual(sorted(seen), ["edge", "falls", "holds"])
        self.assertEqual({wide for wide, _ in seen["holds"]}, {1, 2, 3, 4})
        self.assertEqual({days for _, days in seen["holds"]}, {1, 2, 3, 4, 5, 6})
        for word in seen:
            self.assertGreater(len(seen[word]), 50)

    def test_markets_with_little_to_spare(self):
        for goods in itertools.product([(1, 1, 0), (4, 1, 0), (3, 4, 0), (4, 3, 0), (3, 1, 0)], repeat=3):
            self.look((list(goods), [[0, 0, 0], [None, 0, 0], [0, None, 0]]))
        words = []
        steps = list(itertools.product((1, 2, 3, 4), repeat=2))
        for many in (2, 3, 4):
            for goods in itertools.combinations_with_replacement(steps, many):
                together = sum(Fraction(down, up + down) for up, down in goods)
                if Fraction(17, 20) < together <= 1:
                    words.append(self.look(([(up, down, 0) for up, down in goods], [[0] * many])))
                    self.assertEqual(words[-1], "holds" if together < 1 else "edge")
        self.assertGreater(words.count("holds"), 20)
        self.assertGreater(words.count("edge"), 20)

    def test_days_for_just_one_good_each(self):
        # A day that many want must be left to what few want: it is not for the first good that is wanted there.
        for rows in itertools.permutations(("xxxx", "x---", "-xx-", "xx-x", "---x")):
            self.assertEqual(self.look(wanting(*rows, up=4)), "holds")
            self.assertEqual(self.look(wanting(*rows, up=3)), "edge")
            self.assertEqual(self.look(wanting(*rows, up=2)), "falls")

    def test_at_the_edge(self):
        for market in AT_THE_EDGE:
            self.assertEqual(self.look(market), "edge", market)

    def test_a_set_that_falls_beside_one_at_the_edge(self):
        # One good is at the edge by itself, and what falls is another one, or all together.
        for rows in (("x-", "--"), ("-x", "--"), ("x-x", "--x"), ("xx", "--"), ("-xx", "nobody")):
            self.assertEqual(self.look(wanting(*rows)), "falls")

    def test_nobody_and_nothing_wanted(self):
        for many in (1, 2, 3, 4):
            for days in ([None], [None] * 6, [[None] * many], [[None] * many, None]):
                self.assertEqual(self.look(([(4, 1, 0)] * many, days)), "falls")

    def test_one_good(self):
        for up, down in itertools.product((1, 2, 3, 4), repeat=2):
            for days in range(1, 7):
                for wanted in range(days + 1):
                    market = ([(up, down, 0)], [[0]] * wanted + [None] * (days - wanted))
                    need = Fraction(down * days, up + down)
                    word = "holds" if need < wanted else "edge" if need == wanted else "falls"
                    self.assertEqual(self.look(market), word)

    def test_neither_starts_nor_worths_matter(self):
        for market in markets_of_all_kinds(60, 2):
            word = verdict(market)[0]
            goods = [(up, down, -start) for up, down, start in market[0]]
            days = [[None if worth is None else 99 for worth in buyer] if buyer else None for buyer in market[1]]
            self.assertEqual(verdict((goods, days))[0], word)


class DoesHoldTest(unittest.TestCase):
    def test_reckoned_by_hand(self):
        # The goods need 4/5 and 1, over 10 it is 8 and 10.
        for parts, told in (
            ([[9, 1], [0, 10]], True), ([[8, 1], [0, 10]], False), ([[9, 0], [0, 10]], False),
            ([[9, 1], [0, 9]], False), ([[9, 1], [1, 9]], False), ([[9, 2], [0, 10]], False),
            ([[10, 1], [0, 10]], False),
            ([[9, 1], [0, 11]], False), ([[9, 1]], False), ([[9, 1], [0, 10], [0, 0]], False),
            ([[0, 10], [9, 1]], False), ([[10, 0], [0, 10]], False), ([[0, 0], [0, 0]], False),
        ):
            self.assertIs(does_hold(HELD, (parts, 10)), told, parts)
        self.assertIs(does_hold(HELD, ([[9, 1], [0, 10]], 9)), False)
        self.assertIs(does_hold(HELD, ([[9, 1], [0, 10]], 11)), False)
        self.assertIs(does_hold(HELD, ([[9, 2], [0, 11]], 11)), True)

    def test_just_so_many_do_not_hold(self):
        self.assertIs(does_hold(([(1, 1, 0)], [[0], [0]]), ([[1], [0]], 1)), False)
        self.assertIs(does_hold(([(1, 1, 0)], [[0], [0]]), ([[1], [1]], 1)), True)
        for market in AT_THE_EDGE:
            whole = [[0 if buyer is None or buyer[good] is None else 1 for good in range(len(market[0]))]
                     for buyer in market[1]]
            if all(sum(day) <= 1 for day in whole):
                self.assertIs(does_hold(market, (whole, 1)), False)

    def test_bottoms(self):
        one = ([(3, 1, 0)], [[0]])
        for bottom in (1, 2, 999999999, BILLION):
            self.assertIs(does_hold(one, ([[bottom]], bottom)), True)
            self.assertIs(does_hold(one, ([[bottom + 1]], bottom)), False)
            self.assertIs(does_hold(one, ([[0]], bottom)), False)
        self.assertIs(does_hold(one, ([[BILLION // 4 + 1]], BILLION)), True)
        self.assertIs(does_hold(one, ([[BILLION // 4]], BILLION)), False)
        for bottom in (BILLION + 1, HUGE):
            self.assertIs(does_hold(one, ([[bottom]], bottom)), False)
            self.assertIs(does_hold(one, ([[BILLION]], bottom)), False)
        for bottom in [0, -1, -BILLION] + not_whole():
            self.assertIs(does_hold(one, ([[1]], bottom)), False, bottom)
            self.assertIs(does_hold(one, ([[0]], bottom)), False, bottom)

    def test_a_part_where_nothing_is_wanted(self):
        market = ([(4, 1, 0), (4, 1, 0)], [[0, None], None, [0, 0]])
        self.assertIs(does_hold(market, ([[5, 0], [0, 0], [0, 5]], 5)), True)
        for parts in ([[4, 1], [0, 0], [0, 5]], [[5, 0], [1, 0], [0, 5]], [[5, 0], [0, 1], [0, 5]]):
            self.assertIs(does_hold(market, (parts, 5)), False)

    def test_told_dealings_one_more_and_one_less(self):
        held = 0
        for market in markets_of_all_kinds(400, 3):
            word, dealing = verdict(market)
            if word != "holds":
                continue
            held += 1
            parts, bottom = dealing
            for day in range(len(parts)):
                self.assertIs(does_hold(market, (parts[:day] + parts[day + 1:], bottom)), False)
                self.assertIs(does_hold(market, (parts[:day] + [tuple(parts[day])] + parts[day + 1:], bottom)), False)
                self.assertIs(does_hold(market, (parts[:day] + [parts[day][:-1]] + parts[day + 1:], bottom)), False)
                for good in range(len(market[0])):
                    for part in (parts[day][good] + 1, parts[day][good] - 1, -1, bottom, bottom + 1, 0):
                        other = copy.deepcopy(parts)
                        other[day][good] = part
                        self.assertIs(does_hold(market, (other, bottom)), holds_by_hand(market, (other, bottom)))
            for other in (bottom - 1, bottom + 1, bottom * 2, 1):
                self.assertIs(does_hold(market, (parts, other)), holds_by_hand(market, (parts, other)))
            doubled = [[part * 2 for part in day] for day in parts]
            self.assertIs(does_hold(market, (doubled, bottom * 2)), True)
        self.assertGreater(held, 40)

    def test_below_nought(self):
        # Too much at a day is not made good by a part below nought.
        self.assertIs(does_hold(HELD, ([[11, -1], [0, 10]], 10)), False)
        self.assertIs(does_hold(HELD, ([[9, 1], [-1, 10]], 10)), False)
        # Nor may it stand where each good has enough all the same.
        market = ([(4, 1, 0), (4, 1, 0)], [[0, 0], [0, 0], [0, 0]])
        for part, told in ((1, True), (0, True), (-1, False), (-9, False)):
            self.assertIs(does_hold(market, ([[part, 7], [9, 0], [8, 0]], 10)), told)

    def test_things_of_any_kind(self):
        parts, bottom = [[9, 1], [0, 10]], 10
        for thing in things_of_other_kinds() + not_whole():
            for dealing in (
                thing, (thing, bottom), (parts, thing), ([thing, [0, 10]], bottom), ([[9, 1], thing], bottom),
                ([[thing, 1], [0, 10]], bottom), ([[9, 1], [0, thing]], bottom),
            ):
                self.assertIs(does_hold(HELD, dealing), False, dealing)
        for dealing in (
            [parts, bottom], (parts,), (parts, bottom, bottom), (tuple(parts), bottom), ((9, 1), bottom),
            ([(9, 1), (0, 10)], bottom), ([[9, 1], (0, 10)], bottom), (bottom, parts), {0: parts, 1: bottom},
            ([[9, 1], {0: 0, 1: 10}], bottom), ([[9, 1], [0, 10, 0]], bottom), ([[9, 1, 0], [0, 10]], bottom),
            ([[9], [10]], bottom), ([9, 1], bottom), (parts, [bottom]), ([[9, True], [0, 10]], bottom),
            ([[9, 1], [False, 10]], bottom), ([[True, 1], [0, 10]], True), ("holds", (parts, bottom)),
        ):
            self.assertIs(does_hold(HELD, dealing), False, dealing)
        self.assertIs(does_hold(HELD, (parts, bottom)), True)

    def test_what_is_told_of_another_kind(self):
        for market in (NOBODY, wanting("xx", "xx")):
            self.assertIs(does_hold(market, verdict(market)), False)
            self.assertIs(does_hold(market, verdict(market)[1]), False)
            self.assertIs(does_fall(market, verdict(market)), False)
        self.assertIs(does_fall(HELD, verdict(HELD)[1]), False)


class DoesFallTest(unittest.TestCase):
    def test_reckoned_by_hand(self):
        # Needed are 2, 3/4 and 11/4, and there are 1, 2 and 2.
        self.assertEqual([does_fall(PLAIN, goods) for goods in ([0], [1], [0, 1])], [True, False, True])
        self.assertEqual([does_fall(HELD, goods) for goods in ([0], [1], [0, 1])], [False, False, False])

    def test_just_so_many_do_not_fall(self):
        for market in AT_THE_EDGE:
            self.assertEqual([goods for goods in all_sets(market) if does_fall(market, goods)], [])

    def test_all_sets(self):
        for market in markets_of_all_kinds(200, 4):
            for goods in all_sets(market):
                self.assertIs(does_fall(market, goods), need_by_hand(market, goods) > had_by_hand(market, goods))


class FallingTest(unittest.TestCase):
    def over(self, market, prices, goods):
        return sum(Fraction(prices[good], sum(market[0][good][:2])) for good in goods)

    def test_from_each_round_to_the_next(self):
        looked = 0
        for market in itertools.chain(markets_of_all_kinds(240, 5), (PLAIN, NOBODY)):
            length = len(market[1])
            told = [prices_at(market, rounds * length) for rounds in range(30)]
            for goods in all_sets(market):
                if does_fall(market, goods):
                    least = Fraction(*needs(market, goods)) - has(market, goods)
                    sums = [self.over(market, prices, goods) for prices in told]
                    for ahead, behind in zip(sums, sums[1:]):
                        self.assertGreaterEqual(ahead - behind, least)
                    looked += 1
        self.assertGreater(looked, 100)

    def test_a_held_market_stays_within_bounds(self):
        held = 0
        for market in markets_of_all_kinds(300, 6):
            if verdict(market)[0] == "holds":
                for days in (1000, 2000, 4000):
                    self.assertLess(max(abs(price) for price in prices_at(market, days)), 400)
                held += 1
        self.assertGreater(held, 30)


class ArgumentsTest(unittest.TestCase):
    dealing = ([[9, 1], [0, 10]], 10)
    asked = (
        (needs, {"market": HELD, "goods": [0, 1]}), (has, {"market": HELD, "goods": [0, 1]}),
        (does_fall, {"market": HELD, "goods": [0, 1]}), (does_hold, {"market": HELD, "dealing": dealing}),
        (verdict, {"market": HELD}), (verdict, {"market": NOBODY}), (verdict, {"market": AT_THE_EDGE[2]}),
    )

    def test_no_market_ahead_of_all_else(self):
        for thing in list(broken_markets(PLAIN)) + things_of_other_kinds() + [0, turned(PLAIN), PLAIN + PLAIN]:
            self.assertIs(refusal(verdict, thing), NoMarket)
            for function in (needs, has, does_fall, does_hold):
                self.assertIs(refusal(function, thing, [0]), NoMarket)
                self.assertIs(refusal(function, thing, [True]), NoMarket)
                self.assertIs(refusal(function, thing, None), NoMarket)
            self.assertIs(refusal(does_hold, thing, self.dealing), NoMarket)

    def test_by_place_and_by_name(self):
        assert_told_in_all_ways(self, self.asked)

    def test_nothing_handed_in_is_changed(self):
        for function, named in self.asked:
            handed = copy.deepcopy(named)
            function(**handed)
            self.assertEqual(kinds_of(list(handed.values())), kinds_of(list(named.values())))
        for market in markets_of_all_kinds(60, 7):
            handed = copy.deepcopy(market)
            verdict(handed)
            self.assertEqual(handed, market)

    def test_what_is_told_is_the_askers_own(self):
        for function, named in self.asked:
            assert_own(self, function, **copy.deepcopy(named))
        for market in markets_of_all_kinds(60, 8):
            assert_own(self, verdict, market)

    def test_rows_of_a_told_dealing_are_not_one(self):
        market = wanting("xx", "xx", "nobody", "nobody", "--", "xx", up=4)
        word, dealing = verdict(market)
        self.assertEqual(word, "holds")
        self.assertEqual(len({id(day) for day in dealing[0]}), 6)
        dealing[0][2][0] = 7
        self.assertEqual(dealing[0][3][0], 0)

    def test_a_refusal_leaves_nothing_behind(self):
        for function, named in self.asked:
            told = function(**named)
            refusal(function, *[[True]] * len(named))
            refusal(function, HELD, *[[True]] * (len(named) - 1))
            self.assertEqual(kinds_of(function(**named)), kinds_of(told))


if __name__ == "__main__":
    unittest.main()
