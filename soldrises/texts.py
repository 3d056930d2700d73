"""Texts: markets written in rows, and read back."""

from soldrises.errors import NoText
from soldrises.markets import check_market, is_market

FIGURES = "0123456789"
MOST_FIGURES = 3


def are_figures(word, most):
    """Tell whether a word is a number from 0 on by one to so many figures, no 0 ahead of another one."""
    if not 1 <= len(word) <= most:
        return False
    if not all(sign in FIGURES for sign in word):
        return False
    return word == "0" or not word.startswith("0")


def is_number(word):
    """Tell whether a word is a number as a market's writing has it."""
    if word.startswith("-"):
        return word != "-0" and are_figures(word[1:], MOST_FIGURES)
    return are_figures(word, MOST_FIGURES)


def is_row_of_good(words):
    """Tell whether words have the form of a good's row."""
    return len(words) == 4 and words[0] == "good" and all(is_number(word) for word in words[1:])


def is_row_of_day(words):
    """Tell whether words have the form of a day's row."""
    if words == ["nobody"]:
        return True
    return words[0] == "day" and all(word == "-" or is_number(word) for word in words[1:])


def buyer_by(words):
    """Tell the buyer, or nobody, that a day's row writes."""
    if words == ["nobody"]:
        return None
    return [None if word == "-" else int(word) for word in words[1:]]


def row_of_good(good):
    """Tell the row that writes a good."""
    up, down, start = good
    return f"good {up} {down} {start}"


def row_of_day(buyer):
    """Tell the row that writes a day's buyer, or nobody."""
    if buyer is None:
        return "nobody"
    return " ".join(["day"] + ["-" if worth is None else str(worth) for worth in buyer])


def show_market(market):
    """Tell the writing of a market."""
    check_market(market)
    rows = [row_of_good(good) for good in market[0]] + [row_of_day(buyer) for buyer in market[1]]
    return "\n".join(rows)


def read_market(text):
    """Tell the market that a text writes."""
    if not isinstance(text, str):
        raise NoText(None)
    goods = []
    days = []
    rows = text.split("\n")
    for at, row in enumerate(rows):
        words = row.split(" ")
        if is_row_of_good(words) and not days:
            goods.append((int(words[1]), int(words[2]), int(words[3])))
        elif is_row_of_day(words):
            days.append(buyer_by(words))
        else:
            raise NoText(at)
    if not is_market((goods, days)):
        raise NoText(len(rows))
    return (goods, days)
