"""The desk: markets by names, asked and changed by rows of words."""

from soldrises.dealings import verdict
from soldrises.errors import NoGood, NoName, NoPrices, NoRow
from soldrises.markets import is_number_of_good, is_worth, take_of
from soldrises.rounds import far_prices, round_of, sold_in_round
from soldrises.runs import prices_at
from soldrises.texts import are_figures, is_number, read_market, show_market

LETTERS = "abcdefghijklmnopqrstuvwxyz"
MOST_LETTERS = 8
FIGURES_OF_DAY = 4
FIGURES_OF_FAR_DAY = 15


def is_name(word):
    """Tell whether a word is a name that a market may have."""
    return 1 <= len(word) <= MOST_LETTERS and all(sign in LETTERS for sign in word)


def has_form(words):
    """Tell whether the words of a row have the form of one that the desk knows."""
    if len(words) < 2 or not is_name(words[1]):
        return False
    word = words[0]
    behind = words[2:]
    if word in ("drop", "show", "how", "round", "sold"):
        return behind == []
    if word == "start":
        return len(behind) == 2 and is_number(behind[0]) and is_number(behind[1])
    if len(behind) != 1:
        return False
    if word in ("take", "prices"):
        return are_figures(behind[0], FIGURES_OF_DAY)
    if word == "far":
        return are_figures(behind[0], FIGURES_OF_FAR_DAY)
    return word == "market"


def words_of(row):
    """Tell the words of a row, a TEXT being one, or refuse what is no row."""
    if not isinstance(row, str) or "\n" in row or "\t" in row:
        raise NoRow("a row is a text without a line feed or a tab")
    words = row.split(" ", 2) if row.startswith("market ") else row.split(" ")
    if not has_form(words):
        raise NoRow("the desk knows no such row")
    return words


def with_start(market, good, start):
    """Tell a market anew, with another start of a good."""
    goods, days = market
    if not is_number_of_good(good, len(goods)):
        raise NoGood("this is no number of a good")
    if not is_worth(start):
        raise NoPrices("a start is a whole number from -99 to 99")
    up, down, _ = goods[good]
    return (goods[:good] + [(up, down, start)] + goods[good + 1:], days)


def with_blanks(numbers):
    """Tell numbers in one text."""
    return " ".join([str(number) for number in numbers])


def take_at(market, day):
    """Tell the good that is taken at a day of the run, or none, in words."""
    take = take_of(market, prices_at(market, day), day=day)
    return "none" if take is None else str(take)


def told_of(market, word, behind):
    """Tell what a row asks of a market, by its word and what stands behind the name."""
    if word == "show":
        return show_market(market).replace("\n", ";")
    if word == "take":
        return take_at(market, int(behind[0]))
    if word == "prices":
        return with_blanks(prices_at(market, int(behind[0])))
    if word == "how":
        return verdict(market)[0]
    if word == "round":
        return with_blanks(round_of(market))
    if word == "far":
        return with_blanks(far_prices(market, int(behind[0])))
    return with_blanks(sold_in_round(market))


class Desk:
    """Markets by names."""

    def __init__(self):
        self._markets = {}

    def names(self):
        """Tell the names of all markets, rising."""
        return sorted(self._markets)

    def say(self, row):
        """Do what a row says, and tell the answer."""
        words = words_of(row)
        word = words[0]
        name = words[1]
        if word == "market":
            self._markets[name] = read_market(words[2].replace(";", "\n"))
            return "ok"
        if name not in self._markets:
            raise NoName("no market stands by this name")
        if word == "drop":
            del self._markets[name]
            return "ok"
        if word == "start":
            self._markets[name] = with_start(self._markets[name], int(words[2]), int(words[3]))
            return "ok"
        return told_of(self._markets[name], word, words[2:])
