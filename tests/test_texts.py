"""Points 2 and 20: markets written in rows, and read back."""

import copy
import itertools
import unittest

from samples import (
    AT_THE_EDGE, FALLING, HELD, HUGE, NOBODY, PLAIN, assert_own, assert_told_in_all_ways, broken_markets,
    held_markets, kinds_of, refusal, some_markets, things_of_other_kinds, turned,
)
from soldrises.errors import NoMarket, NoText
from soldrises.markets import is_market
from soldrises.texts import read_market, show_market

PLAIN_TEXT = "good 1 2 5\ngood 3 1 -4\nday 9 7\nday - 3\nnobody"
# Words that are no numbers as a market's writing has them.
NO_NUMBERS = [
    "+1", "+", "-0", "--1", "1-", "00", "01", "-01", "007", "-00", "000", "1000", "-1000", "0000", "1.", "1.0",
    "1e1", "0x1", "1_0", "one", "x", "None", "True", "1,", "1;", "(1)", "_1", "'1'", "1\t", "\t1", "~", "/", ":",
]
# Rows that have no such form, wherever they stand.
NO_ROWS = [
    "", " ", "  ", "good", "good ", "good 1", "good 1 1", "good 1 1 ", "good 1 1 1 1", "good  1 1 1", "good 1  1 1",
    "good 1 1  1", " good 1 1 1", "good 1 1 1 ", "Good 1 1 1", "GOOD 1 1 1", "goods 1 1 1", "good - 1 1", "good 1 1 -",
    "good 1 - 1", "good1 1 1", "good 1,1,1", "good\t1 1 1", "good 1 1\t1", "1 1 1", "good 1 1 1;day 1", "go 1 1 1",
    "day ", "day  1", "day 1 ", " day 1", "day 1  1", " day", "Day 1", "DAY 1", "days 1", "day1", "day, 1", "day\t1",
    "day nobody", "day None", "day - -1-", "day --", "day 1 x", "day 1\r", "daY 1", "da 1", "day good", "day day",
    "nobody ", " nobody", "nobody nobody", "nobody 1", "nobody -", "Nobody", "NOBODY", "no body", "nobod", "nobodyy",
    "none", "-", "0", "day 1 good 1 1 1", "market", ";", "\t",
]


def at_of(text):
    """Where a text was refused, or what it told in a tuple."""
    try:
        return (read_market(text),)
    except NoText as error:
        return error.at


class ShowTest(unittest.TestCase):
    def test_reckoned_by_hand(self):
        self.assertEqual(kinds_of(show_market(PLAIN)), kinds_of(PLAIN_TEXT))
        self.assertEqual(show_market(NOBODY), "good 1 4 -99\ngood 4 1 99\nnobody")
        self.assertEqual(show_market(HELD), "good 3 2 0\ngood 2 2 0\nday 5 7\nday - 1")
        self.assertEqual(show_market(([(1, 1, 0)], [[None]])), "good 1 1 0\nday -")
        self.assertEqual(show_market(([(1, 1, 0)], [[-5]] * 2)), "good 1 1 0\nday -5\nday -5")

    def test_a_row_for_each_good_and_each_day(self):
        for market in some_markets(60):
            rows = show_market(market).split("\n")
            self.assertEqual([row.split(" ")[0] for row in rows],
                             ["good"] * len(market[0]) + ["nobody" if buyer is None else "day" for buyer in market[1]])
            self.assertEqual(show_market(market), show_market(market).strip())

    def test_no_market(self):
        for thing in list(broken_markets(PLAIN)) + things_of_other_kinds() + [0, PLAIN_TEXT, turned(PLAIN), PLAIN * 2]:
            self.assertIs(refusal(show_market, thing), NoMarket)


class ReadTest(unittest.TestCase):
    def test_reckoned_by_hand(self):
        self.assertEqual(kinds_of(read_market(PLAIN_TEXT)), kinds_of(PLAIN))
        self.assertEqual(kinds_of(read_market("good 1 1 0\nday -")), kinds_of(([(1, 1, 0)], [[None]])))
        self.assertEqual(kinds_of(read_market("good 4 4 -99\nnobody")), kinds_of(([(4, 4, -99)], [None])))

    def test_written_and_read_back(self):
        sizes = {}
        markets = itertools.chain(some_markets(200), held_markets(48, 1), AT_THE_EDGE, FALLING, (PLAIN, NOBODY, HELD))
        for market in markets:
            text = show_market(market)
            self.assertEqual(kinds_of(read_market(text)), kinds_of(market))
            self.assertEqual(show_market(read_market(text)), text)
            sizes[len(market[0]), len(market[1])] = True
        self.assertEqual(len(sizes), 24)

    def test_all_worths_and_starts(self):
        for number in range(-99, 100):
            market = ([(1, 4, number)], [[number], [-number], None])
            self.assertEqual(kinds_of(read_market(show_market(market))), kinds_of(market))

    def test_nobody_and_nothing_wanted_are_not_the_same(self):
        one, other = ([(1, 1, 0)] * 2, [None]), ([(1, 1, 0)] * 2, [[None, None]])
        self.assertNotEqual(show_market(one), show_market(other))
        self.assertEqual(read_market(show_market(one)), one)
        self.assertEqual(read_market(show_market(other)), other)


class NoFormTest(unittest.TestCase):
    def test_first_in_the_midst_and_last(self):
        rows = PLAIN_TEXT.split("\n")
        for spoilt in NO_ROWS:
            for at in range(len(rows) + 1):
                self.assertEqual(kinds_of(at_of("\n".join(rows[:at] + [spoilt] + rows[at:]))), kinds_of(at), spoilt)
            for at in range(len(rows)):
                self.assertEqual(at_of("\n".join(rows[:at] + [spoilt] + rows[at + 1:])), at, spoilt)
            self.assertEqual(at_of(spoilt), 0, spoilt)

    def test_what_is_no_number(self):
        for word in NO_NUMBERS:
            self.assertEqual(at_of(f"good 1 1 0\nday {word}"), 1, word)
            self.assertEqual(at_of(f"good 1 1 0\nday 0\nday {word}"), 2, word)
            self.assertEqual(at_of(f"good 1 1 0\ngood 1 1 0\nday 0 {word}\nday 0 0"), 2, word)
            for at in range(3):
                words = ["1", "1", "1"]
                words[at] = word
                self.assertEqual(at_of("good " + " ".join(words)), 0, word)
                self.assertEqual(at_of("good 1 1 1\ngood " + " ".join(words) + "\nday 1 1"), 1, word)

    def test_a_worth_that_is_unwanted_is_no_number_of_a_good(self):
        self.assertEqual(at_of("good 1 1 -\nday -"), 0)
        self.assertEqual(at_of("good - 1 1\nday -"), 0)

    def test_a_good_behind_a_day(self):
        for day in ("day 1", "day -", "day", "day 1 2 3 4 5", "nobody", "day 999"):
            for good in ("good 1 1 0", "good 9 9 999", "good 0 -1 -999"):
                self.assertEqual(at_of(f"good 1 1 0\n{day}\n{good}"), 2)
                self.assertEqual(at_of(f"good 1 1 0\n{day}\n{day}\n{good}\n{day}"), 3)
                self.assertEqual(at_of(f"{day}\n{good}"), 1)

    def test_the_first_of_several(self):
        self.assertEqual(at_of("good 1 1 0\nday x\nDay 1\n"), 1)
        self.assertEqual(at_of("good 1 1 0\nday 1\ngood 1 1 1\nday x"), 2)
        self.assertEqual(at_of("good 1 1 0\nday 1\nday x\ngood 1 1 1"), 2)
        # A row that has the form goes ahead of all that makes no market.
        self.assertEqual(at_of("good 9 9 999\nday 1 2 3\nx"), 2)
        self.assertEqual(at_of("\n\n\n"), 0)

    def test_empty_texts_and_rows(self):
        self.assertEqual(kinds_of(at_of("")), kinds_of(0))
        self.assertEqual(at_of("\n"), 0)
        self.assertEqual(at_of(PLAIN_TEXT + "\n"), 5)
        self.assertEqual(at_of("\n" + PLAIN_TEXT), 0)
        self.assertEqual(at_of(PLAIN_TEXT.replace("\nday 9", "\n\nday 9")), 2)
        self.assertEqual(at_of(PLAIN_TEXT + "\n\n"), 5)

    def test_other_signs_do_not_part_rows(self):
        for sign in ("\r\n", "\r", "\f", "\v", ";", "\t"):
            self.assertEqual(at_of(PLAIN_TEXT.replace("\n", sign)), 0, repr(sign))


class NoMarketTest(unittest.TestCase):
    def test_all_rows_have_the_form(self):
        for text in (
            "good 1 1 0", "day 1", "day", "nobody", "nobody\nnobody", "good 1 1 0\nday", "good 1 1 0\nday 1 1",
            "good 1 1 0\ngood 1 1 0\nday 1", "good 0 1 0\nday 1", "good 1 0 0\nday 1", "good 5 1 0\nday 1",
            "good 1 5 0\nday 1", "good -1 1 0\nday 1", "good 1 -1 0\nday 1", "good 1 1 100\nday 1",
            "good 1 1 -100\nday 1", "good 1 1 999\nday 1", "good 1 1 0\nday 100", "good 1 1 0\nday -100",
            "good 1 1 0\nday 999", "good 1 1 0\nday -999", "good 999 999 999\nday 1",
            "good 1 1 0\nday 1\nday", "good 1 1 0\nday 1\nday 1 1", "good 1 1 0\nday 1\nday - -", "day 1\nnobody\nday",
        ):
            self.assertEqual(kinds_of(at_of(text)), kinds_of(len(text.split("\n"))), text)

    def test_too_many(self):
        self.assertEqual(at_of("\n".join(["good 1 1 0"] * 5 + ["day 1 1 1 1 1"])), 6)
        self.assertEqual(at_of("\n".join(["good 1 1 0"] * 4 + ["day 1 1 1 1"])), (([(1, 1, 0)] * 4, [[1] * 4]),))
        self.assertEqual(at_of("\n".join(["good 1 1 0"] + ["day 1"] * 7)), 8)
        self.assertEqual(at_of("\n".join(["good 1 1 0"] + ["nobody"] * 7)), 8)
        self.assertEqual(at_of("\n".join(["good 1 1 0"] + ["day 1"] * 6)), (([(1, 1, 0)], [[1]] * 6),))
        self.assertEqual(at_of("\n".join(["good 1 1 0"] + ["day 1"] * 200)), 201)
        self.assertEqual(at_of("good 1 1 0\nday" + " 1" * 300), 2)

    def test_at_the_bounds(self):
        for number, told in ((99, True), (-99, True), (100, False), (-100, False)):
            for text in (f"good 1 1 {number}\nday 0", f"good 1 1 0\nday {number}"):
                self.assertEqual(at_of(text) != 2, told)
        for step in range(-1, 7):
            for text in (f"good {step} 1 0\nday 0", f"good 1 {step} 0\nday 0"):
                self.assertEqual(at_of(text) != 2, 1 <= step <= 4)

    def test_what_is_read_is_a_market(self):
        numbers = ("0", "1", "4", "5", "-1", "99", "100", "-99", "-100")
        read = 0
        for up, down, start, worth in itertools.product(numbers, repeat=4):
            told = at_of(f"good {up} {down} {start}\nday {worth}")
            if told == 2:
                self.assertFalse(is_market(([(int(up), int(down), int(start))], [[int(worth)]])))
            else:
                self.assertEqual(kinds_of(told[0]), kinds_of(([(int(up), int(down), int(start))], [[int(worth)]])))
                self.assertTrue(is_market(told[0]))
                read += 1
        self.assertEqual(read, 2 * 2 * 7 * 7)


class NoTextTest(unittest.TestCase):
    def test_no_text_at_all(self):
        for thing in things_of_other_kinds() + [0, 1, HUGE, PLAIN, PLAIN_TEXT.encode(), [PLAIN_TEXT], (PLAIN_TEXT,),
                                                PLAIN_TEXT.split("\n"), {"text": PLAIN_TEXT}]:
            if not isinstance(thing, str):
                self.assertIsNone(at_of(thing), thing)
                self.assertIs(refusal(read_market, thing), NoText)

    def test_texts_of_other_kinds(self):
        for text in ("1", "good", "x", "market", "Good 1 1 0"):
            self.assertEqual(at_of(text), 0)


class ArgumentsTest(unittest.TestCase):
    asked = ((show_market, {"market": PLAIN}), (read_market, {"text": PLAIN_TEXT}))

    def test_by_place_and_by_name(self):
        assert_told_in_all_ways(self, self.asked)

    def test_what_is_read_is_the_askers_own(self):
        for market in some_markets(40) + [PLAIN, ([(1, 1, 0)], [[1]] * 6), ([(1, 1, 0)], [[None]] * 6)]:
            assert_own(self, read_market, show_market(market))

    def test_nothing_handed_in_is_changed(self):
        for market in some_markets(40):
            handed = copy.deepcopy(market)
            show_market(handed)
            self.assertEqual(kinds_of(handed), kinds_of(market))

    def test_the_same_asked_again_behind_other_questions(self):
        told = [at_of(text) for text in NO_ROWS]
        read_market(PLAIN_TEXT)
        self.assertEqual([at_of(text) for text in reversed(NO_ROWS)], told[::-1])
        self.assertEqual(read_market(PLAIN_TEXT), PLAIN)


if __name__ == "__main__":
    unittest.main()
