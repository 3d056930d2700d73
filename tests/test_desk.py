"""Points 2, 21 and 22: the desk."""

import copy
import itertools
import unittest

from samples import (
    AT_THE_EDGE, FALLING, HELD, NOBODY, PLAIN, held_markets, refusal, run_by_hand, some_markets, things_of_other_kinds,
)
from soldrises.dealings import verdict
from soldrises.desk import Desk
from soldrises.errors import NoDay, NoGood, NoName, NoPrices, NoRow, NoText, NotHeld
from soldrises.rounds import far_prices, far_take, round_of, sold_in_round
from soldrises.runs import prices_at
from soldrises.texts import show_market

WORDS = ("drop", "start", "show", "take", "prices", "how", "round", "far", "sold")
PLAIN_TEXT = "good 1 2 5;good 3 1 -4;day 9 7;day - 3;nobody"
HELD_TEXT = "good 3 2 0;good 2 2 0;day 5 7;day - 1"
# A row of each sort that is told of a market by the name a.
ROWS_OF_A = ["show a", "take a 0", "prices a 3", "how a", "round a", "far a 7", "sold a", "start a 0 1", "drop a"]
# Words that stand for no number as rows have them.
NO_NUMBERS = [
    "-0", "00", "01", "-01", "+1", "1000", "-1000", "--1", "-", "", "x", "1.0", "1_0", "None", "0x1", "1-", "1;", "'1'",
]
# What is no DAY of one to four figures.
NO_DAYS = [
    "-1", "-0", "-4", "00", "01", "007", "0000", "0001", "+1", "10000", "40000", "00000", "", "-", "x", "1.0", "1_0",
    "0x1", "None", "1e3", "1;", "4-",
]
NO_FAR_DAYS = [
    "-1", "-0", "00", "01", "000000000000001", "1000000000000000", "9999999999999999", "0000000000000000", "+1", "",
    "-", "x", "1.0", "1_000", "None", "-100000000000000",
]
NO_NAMES = [
    "", "A", "Ab", "aB", "abcdefghi", "abcdefghijkl", "a1", "1", "a-b", "a_b", "a.", "-", ";", "a;", "'a'", "~", "`",
    "{", "a@", "[",
]
NO_ROWS = [
    "", " ", "a", "x a", "show", "show ", " show a", "show a ", "show  a", "show a b", "show a 1", "Show a", "SHOW a",
    "shows a", "showa", "drop", "drop ", "drop a ", "drop  a", "drop a b", " drop a", "Drop a", "drop a 0", "start a",
    "start a 0", "start a 0 ", "start a 0 1 ", "start a 0 1 2", "start a  0 1", "start a 0  1", "start  a 0 1",
    "start 0 1", "start a 0 -", "start a - 1", "take a", "take a ", "take a 0 ", "take a  0", "take  a 0", "take a 0 0",
    "take 0", "take 0 a", "prices a", "prices a ", "prices a 0 ", "prices a  0", "prices a 0 1", "price a 0", "how",
    "how a ", "how a 0", "how  a", "How a", "how a b", "round a ", "round a 0", "round", "Round a", "far a", "far a ",
    "far a 0 ", "far a  0", "far a 0 0", "Far a 0", "sold a ", "sold a 0", "sold", "market", "market ", "market a",
    "market  ", "market  a " + PLAIN_TEXT, " market a " + PLAIN_TEXT, "Market a " + PLAIN_TEXT,
    "markets a " + PLAIN_TEXT, "market;a;" + PLAIN_TEXT, "names", "names a", "say a", "a show", ";", "show;a", "show,a",
    "show a;", "show a;show a",
]


def desk_with(**texts):
    desk = Desk()
    for name, text in texts.items():
        desk.say(f"market {name} {text}")
    return desk


def kept_by(desk):
    """All that a desk has."""
    return [(name, desk.say(f"show {name}")) for name in desk.names()]


def text_of(market):
    return show_market(market).replace("\n", ";")


def some_desks():
    """Desks with a market by the name a, and that market."""
    for market in itertools.chain(some_markets(24), held_markets(24, 1), AT_THE_EDGE, FALLING, (PLAIN, NOBODY, HELD)):
        yield desk_with(a=text_of(market)), market


class MarketTest(unittest.TestCase):
    def test_a_market_is_told_and_shown(self):
        desk = Desk()
        self.assertEqual(desk.say("market a " + PLAIN_TEXT), "ok")
        self.assertEqual(desk.say("show a"), PLAIN_TEXT)
        self.assertEqual(desk.names(), ["a"])

    def test_a_writing_of_several_rows(self):
        for desk, market in some_desks():
            self.assertEqual(desk.say("show a"), text_of(market))

    def test_in_the_place_of_what_stood_by_the_name(self):
        desk = desk_with(a=PLAIN_TEXT, b=HELD_TEXT)
        self.assertEqual(desk.say("market a good 1 1 0;day 0"), "ok")
        self.assertEqual(kept_by(desk), [("a", "good 1 1 0;day 0"), ("b", HELD_TEXT)])
        self.assertEqual(desk.say("round a"), "0 2")

    def test_show_told_to_another_name_is_the_same_market(self):
        for desk, _ in some_desks():
            self.assertEqual(desk.say("market other " + desk.say("show a")), "ok")
            for row in ("show a", "how a", "take a 5", "prices a 40"):
                self.assertEqual(desk.say(row), desk.say(row.replace(" a", " other")))

    def test_names(self):
        desk = Desk()
        for name in ("b", "abcdefgh", "z", "a", "ab", "market", "show", "good", "zzzzzzzz"):
            self.assertEqual(desk.say(f"market {name} {HELD_TEXT}"), "ok")
            self.assertEqual(desk.say(f"show {name}"), HELD_TEXT)
        self.assertEqual(desk.names(), ["a", "ab", "abcdefgh", "b", "good", "market", "show", "z", "zzzzzzzz"])

    def test_each_letter(self):
        desk = Desk()
        for name in "zyxwvutsrqponmlkjihgfedcba":
            desk.say(f"market {name} {HELD_TEXT}")
        self.assertEqual(desk.names(), list("abcdefghijklmnopqrstuvwxyz"))

    def test_drop(self):
        desk = desk_with(a=PLAIN_TEXT, b=HELD_TEXT)
        self.assertEqual(desk.say("drop a"), "ok")
        self.assertEqual(kept_by(desk), [("b", HELD_TEXT)])
        for row in ROWS_OF_A:
            self.assertIs(refusal(desk.say, row), NoName)
        self.assertEqual(desk.say("market a " + HELD_TEXT), "ok")
        self.assertEqual(desk.names(), ["a", "b"])
        desk.say("drop b")
        desk.say("drop a")
        self.assertEqual(desk.names(), [])


class StartTest(unittest.TestCase):
    def test_the_goods_start(self):
        desk = desk_with(a=PLAIN_TEXT, b=PLAIN_TEXT)
        self.assertEqual(desk.say("start a 1 7"), "ok")
        self.assertEqual(desk.say("show a"), "good 1 2 5;good 3 1 7;day 9 7;day - 3;nobody")
        self.assertEqual(desk.say("start a 0 -99"), "ok")
        self.assertEqual(desk.say("show a"), "good 1 2 -99;good 3 1 7;day 9 7;day - 3;nobody")
        self.assertEqual(desk.say("prices a 0"), "-99 7")
        self.assertEqual(desk.say("show b"), PLAIN_TEXT)

    def test_each_good_and_starts_at_the_bounds(self):
        for wide in range(1, 5):
            text = "good 1 1 0;" * wide + "nobody"
            for good in range(wide):
                for start in (0, 1, -1, 99, -99):
                    desk = desk_with(a=text)
                    self.assertEqual(desk.say(f"start a {good} {start}"), "ok")
                    starts = ["0"] * wide
                    starts[good] = str(start)
                    self.assertEqual(desk.say("prices a 0"), " ".join(starts))
            for good in (wide, wide + 1, 99, 100, 999, -1, -2, -wide, -999):
                self.assertIs(refusal(desk.say, f"start a {good} 0"), NoGood)

    def test_no_prices_beyond_the_bounds(self):
        desk = desk_with(a=PLAIN_TEXT)
        for start in (100, -100, 101, 999, -999):
            self.assertIs(refusal(desk.say, f"start a 0 {start}"), NoPrices)
            self.assertIs(refusal(desk.say, f"start a 1 {start}"), NoPrices)
            self.assertIs(refusal(desk.say, f"start a 2 {start}"), NoGood)
            self.assertIs(refusal(desk.say, f"start a -1 {start}"), NoGood)
        self.assertEqual(kept_by(desk), [("a", PLAIN_TEXT)])

    def test_what_was_told_before_stays(self):
        desk = desk_with(a=PLAIN_TEXT)
        told = desk.say("show a")
        desk.say("start a 0 1")
        self.assertEqual(told, PLAIN_TEXT)
        self.assertIs(refusal(desk.say, "start a 0 100"), NoPrices)
        self.assertIs(refusal(desk.say, "start a 5 1"), NoGood)
        self.assertEqual(desk.say("show a"), PLAIN_TEXT.replace("good 1 2 5", "good 1 2 1"))


class AskedTest(unittest.TestCase):
    def test_reckoned_by_hand(self):
        desk = desk_with(a=PLAIN_TEXT, b=HELD_TEXT, c="good 1 1 0;day 0;nobody")
        self.assertEqual([desk.say(f"take a {day}") for day in range(6)], ["1", "1", "none", "0", "1", "none"])
        self.assertEqual([desk.say(f"prices a {day}") for day in (0, 1, 6)], ["5 -4", "3 -1", "-4 2"])
        self.assertEqual([desk.say(f"how {name}") for name in "abc"], ["falls", "holds", "edge"])
        self.assertEqual(desk.say("round b"), "2 10")
        self.assertEqual(desk.say("sold b"), "4 5")
        self.assertEqual(desk.say("far b 0"), "0 0")
        desk.say("market c good 1 1 0;day 0")
        self.assertEqual([desk.say("far c " + day) for day in ("0", "1", "999999999999999", "100000000000000")],
                         ["0", "1", "1", "0"])

    def test_as_the_stages_tell(self):
        for desk, market in some_desks():
            told, ahead = run_by_hand(market, 62)
            for day in (0, 1, 2, 5, 60, 61):
                self.assertEqual(desk.say(f"take a {day}"), "none" if told[day] is None else str(told[day]))
                self.assertEqual(desk.say(f"prices a {day}"), " ".join(str(price) for price in ahead[day]))
            word = verdict(market)[0]
            self.assertEqual(desk.say("how a"), word)
            if word != "holds":
                for row in ("round a", "sold a", "far a 0", "far a 999999999999999"):
                    self.assertIs(refusal(desk.say, row), NotHeld)
                continue
            self.assertEqual(desk.say("round a"), " ".join(str(number) for number in round_of(market)))
            self.assertEqual(desk.say("sold a"), " ".join(str(number) for number in sold_in_round(market)))
            for day in (0, 1, 999, 4001, 123456789012345, 999999999999999):
                self.assertEqual(desk.say(f"far a {day}"), " ".join(str(price) for price in far_prices(market, day)))

    def test_days_at_their_bounds(self):
        for desk, market in itertools.islice(some_desks(), 0, None, 6):
            self.assertEqual(desk.say("prices a 4000"), " ".join(str(price) for price in prices_at(market, 4000)))
            told, _ = run_by_hand(market, 4001)
            self.assertEqual(desk.say("take a 3999"), "none" if told[3999] is None else str(told[3999]))
            self.assertEqual(desk.say("take a 4000"), "none" if told[4000] is None else str(told[4000]))
            for word, day in itertools.product(("take", "prices"), (4001, 4002, 5000, 9999)):
                self.assertIs(refusal(desk.say, f"{word} a {day}"), NoDay)
        desk = desk_with(a=HELD_TEXT)
        self.assertEqual(desk.say("take a 4000"), str(far_take(HELD, 4000)))
        self.assertEqual(desk.say("far a 4001"), " ".join(str(price) for price in far_prices(HELD, 4001)))

    def test_asking_changes_nothing(self):
        desk = desk_with(a=HELD_TEXT, b=PLAIN_TEXT)
        kept = kept_by(desk)
        for row in ROWS_OF_A[:7]:
            told = desk.say(row)
            self.assertEqual(desk.say(row), told)
            self.assertIs(type(told), str)
            self.assertEqual(kept_by(desk), kept)


class NoRowTest(unittest.TestCase):
    def setUp(self):
        self.desk = desk_with(a=HELD_TEXT, b=PLAIN_TEXT)

    def look(self, row, refused=NoRow):
        """A look at a row that is refused, and that nothing has changed."""
        kept = kept_by(self.desk)
        self.assertIs(refusal(self.desk.say, row), refused, row)
        self.assertEqual(kept_by(self.desk), kept)

    def test_rows_of_no_form(self):
        for row in NO_ROWS:
            self.look(row)

    def test_each_row_with_a_sign_too_many(self):
        for row in ROWS_OF_A + ["market a " + HELD_TEXT]:
            for other in (" " + row, row.replace(" ", "  ", 1), row.replace(" ", "\t", 1), row + "\n", row + "\t",
                          "\n" + row, "\t" + row, row.replace(" ", "\n", 1), row.replace(" ", "", 1), row.upper(),
                          row.replace(" a", " a\n"), row.replace(" a", " a\t")):
                self.look(other)
            if not row.startswith("market"):
                self.look(row + " ")
                self.look(row + " 1")
                self.look(row + ";")

    def test_line_feeds_and_tabs_in_a_text(self):
        for sign in ("\n", "\t"):
            self.look("market a " + HELD_TEXT.replace(";", sign))
            self.look("market a " + HELD_TEXT + sign)
            self.look("market a " + sign)
            self.look("market a " + HELD_TEXT.replace(" ", sign, 1))
            self.look("market c x" + sign)
            self.look("show a" + sign)

    def test_names_of_no_form(self):
        for name in NO_NAMES:
            for row in ROWS_OF_A + ["market a " + HELD_TEXT]:
                self.look(row.replace(" a", " " + name, 1))

    def test_a_name_of_eight_letters_has_the_form(self):
        for row in ROWS_OF_A:
            self.look(row.replace(" a", " abcdefgh"), NoName)
            self.look(row.replace(" a", " abcdefghi"))

    def test_numbers_of_no_form(self):
        for word in NO_NUMBERS:
            self.look(f"start a 0 {word}")
            self.look(f"start a {word} 0")
            self.look(f"start c 0 {word}")

    def test_days_of_no_form(self):
        for word in NO_DAYS:
            self.look(f"take a {word}")
            self.look(f"prices a {word}")
            self.look(f"take c {word}")
        for word in NO_FAR_DAYS:
            self.look(f"far a {word}")
            self.look(f"far b {word}")

    def test_what_is_no_text(self):
        for thing in things_of_other_kinds() + [0, 1, ["show a"], ("show", "a"), b"show a", {"show": "a"}]:
            self.look(thing)


class RefusalsTest(unittest.TestCase):
    def setUp(self):
        self.desk = desk_with(a=HELD_TEXT, b=PLAIN_TEXT)

    def look(self, row, refused):
        kept = kept_by(self.desk)
        self.assertIs(refusal(self.desk.say, row), refused, row)
        self.assertEqual(kept_by(self.desk), kept)

    def test_no_name(self):
        for row in ROWS_OF_A:
            self.look(row.replace(" a", " c"), NoName)
            self.assertIs(refusal(Desk().say, row), NoName)

    def test_no_name_ahead_of_the_stages(self):
        for row in ("start c 9 999", "start c 0 100", "take c 9999", "prices c 4001", "start c -1 0"):
            self.look(row, NoName)

    def test_no_text(self):
        for text in ("", " ", ";", "x", "good 1 1 0", "day 0", "good 1 1 0;day 0;", ";good 1 1 0;day 0",
                     HELD_TEXT + " ", " " + HELD_TEXT, HELD_TEXT.replace(" ", "  ", 1), HELD_TEXT + ";good 1 1 0",
                     "good 5 1 0;day 0", "Good 1 1 0;day 0", "good 1 1 0;day 100", "a",
                     "a " + HELD_TEXT, HELD_TEXT.replace(";", ";;", 1)):
            self.look("market a " + text, NoText)
            self.look("market c " + text, NoText)

    def test_where_a_text_was_refused(self):
        for text, at in (("", 0), ("good 1 1 0;day 0;", 2), ("good 1 1 0;x;day 0", 1),
                         ("good 1 1 0;nobody;good 1 1 0", 2), ("good 1 1 0", 1), ("good 9 9 9;day;day", 3)):
            with self.assertRaises(NoText) as caught:
                self.desk.say("market c " + text)
            self.assertEqual(caught.exception.at, at)

    def test_the_blank_behind_the_name(self):
        self.look("market a", NoRow)
        self.look("market a ", NoText)
        self.look("market c", NoRow)
        self.look("market c ", NoText)

    def test_no_row_ahead_of_all_else(self):
        for row in ("show c ", "take c 10000", "take c -1", "market C x", "start c 00 100", "far c 01", "market c"):
            self.look(row, NoRow)

    def test_as_the_stages_refuse(self):
        self.look("take a 4001", NoDay)
        self.look("prices b 9999", NoDay)
        self.look("start a 2 0", NoGood)
        self.look("start a -1 0", NoGood)
        self.look("start a 0 100", NoPrices)
        self.look("start a 2 100", NoGood)
        self.look("round b", NotHeld)
        self.look("sold b", NotHeld)
        self.look("far b 5", NotHeld)


class DesksTest(unittest.TestCase):
    def test_two_desks_apart(self):
        one, other = desk_with(a=HELD_TEXT), Desk()
        self.assertEqual((one.names(), other.names()), (["a"], []))
        self.assertIs(refusal(other.say, "show a"), NoName)
        other.say("market a " + PLAIN_TEXT)
        other.say("start a 0 9")
        self.assertEqual(one.say("show a"), HELD_TEXT)
        one.say("drop a")
        self.assertEqual(other.names(), ["a"])

    def test_names_are_the_askers_own(self):
        desk = desk_with(b=HELD_TEXT, a=PLAIN_TEXT)
        told = desk.names()
        self.assertIs(type(told), list)
        kept = copy.deepcopy(told)
        told.append("x")
        told[0] = "y"
        self.assertEqual(desk.names(), kept)
        self.assertIsNot(desk.names(), desk.names())
        self.assertIs(type(Desk().names()), list)

    def test_by_place_and_by_name(self):
        desk = Desk()
        self.assertEqual(desk.say(row="market a " + HELD_TEXT), "ok")
        self.assertEqual(desk.say(row="show a"), desk.say("show a"))
        self.assertIs(refusal(desk.say, row="show b"), NoName)

    def test_the_same_asked_again_behind_other_rows(self):
        for desk, _ in itertools.islice(some_desks(), 0, None, 8):
            told = [refusal(desk.say, row) for row in ROWS_OF_A[:7]]
            desk.say("market b " + HELD_TEXT)
            desk.say("start b 0 5")
            refusal(desk.say, "show c")
            self.assertEqual([refusal(desk.say, row) for row in reversed(ROWS_OF_A[:7])], told[::-1])


if __name__ == "__main__":
    unittest.main()
