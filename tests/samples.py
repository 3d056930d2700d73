"""Markets and other things that the tests share."""

from copy import deepcopy
from fractions import Fraction
from itertools import combinations, permutations
from random import Random

from soldrises.errors import SoldError

# Two goods, three days: wanted both, wanted one, nobody.
PLAIN = ([(1, 2, 5), (3, 1, -4)], [[9, 7], [None, 3], None])
# Nobody comes, and both prices fall.
NOBODY = ([(1, 4, -99), (4, 1, 99)], [None])
# Its two goods need 4/5 and 1 of two days: each buyer wants one of them.
HELD = ([(3, 2, 0), (2, 2, 0)], [[5, 7], [None, 1]])

HUGE = 10 ** 18 - 1


def wanting(*rows, up=1, down=1):
    """A market of like goods, with a row of x and - for each day, or nobody."""
    wide = max(len(row) for row in rows if row != "nobody")
    days = [None if row == "nobody" else [0 if sign == "x" else None for sign in row] for row in rows]
    return ([(up, down, 0)] * wide, days)


# Just so many days as are needed, by one good, by some of several, or by all together.
AT_THE_EDGE = [
    wanting("x", "nobody"), wanting("x", "-"), wanting("xx", "xx"), wanting("xx", "xx", "xx"), wanting("x-", "xx"),
    wanting("x", "nobody", "nobody", "nobody", up=3), wanting("xxxx", up=3), wanting("xxx", "xxx", up=2),
    wanting("xx--", "--xx", "xx--", "--xx", up=3), wanting("x-x", "xxx", "-x-", "nobody", up=3),
]
# Markets in which some set falls.
FALLING = [PLAIN, NOBODY, wanting("-"), wanting("x-", "--"), wanting("x-x", "--x"), ([(1, 4, 0), (1, 4, 0)], [[0, 0]])]


class Odd:
    """An object of a class that the program doesn't know."""


def things_of_other_kinds():
    """Things that are no whole number, no good, no buyer, no goods, no round, no market and no prices."""
    return [
        None, True, False, "", "1", "good", b"", b"\x01", b"123", {}, {0: 1, 1: 2}, set(), {1, 2, 3}, frozenset((1,)),
        [], (), [[]], ([],), [()], ((),), [None], (None,), [[[[]]]], [[], []], ([], []), ((), ()), [[1], [1]],
        (1, "1", 1), [1, 1, 1, 1, 1, 1, 1], range(2), object(), Odd(), Odd, len,
    ]


def not_whole():
    """Things that are no whole number."""
    return things_of_other_kinds() + [[0], [1], (0,), (1,), {0}, {0: 0}, "0", "-1", b"0"]


def places_in(thing, at=()):
    """The places of all things within a thing, itself ahead: each the indexes that lead to it."""
    yield at
    if isinstance(thing, (list, tuple)):
        for index, inner in enumerate(thing):
            yield from places_in(inner, at + (index,))


def thing_at(thing, place):
    for index in place:
        thing = thing[index]
    return thing


def with_at(thing, place, other):
    """A copy of a thing with another one at a place."""
    if not place:
        return other
    copied = [with_at(inner, place[1:], other) if index == place[0] else inner for index, inner in enumerate(thing)]
    return tuple(copied) if isinstance(thing, tuple) else copied


def turned(thing):
    """A list as a tuple and a tuple as a list."""
    return tuple(thing) if isinstance(thing, list) else list(thing)


def may_stand_at(place, thing):
    """Whether a thing may stand at a place of a market: None as a buyer or as a worth, [None] as the round."""
    if place == (1,):
        return thing == [None]
    return thing is None and place[:1] == (1,)


def broken_markets(market):
    """What is no market, since one thing in it is of another kind; the market has two goods and a buyer."""
    for place in places_in(market):
        for thing in things_of_other_kinds():
            if not may_stand_at(place, thing):
                yield with_at(market, place, thing)
        inner = thing_at(market, place)
        if isinstance(inner, (list, tuple)):
            yield with_at(market, place, turned(inner))
            yield with_at(market, place, dict(enumerate(inner)))
            if place != (1,):
                # A shorter round may do; a shorter one of all else doesn't.
                yield with_at(market, place, inner[:-1])
        elif inner is not None:
            yield with_at(market, place, str(inner))
            yield with_at(market, place, (inner,))
            yield with_at(market, place, [inner])


def some_markets(many, seed=7):
    """So many markets, the same ones each time."""
    chance = Random(seed)
    told = []
    for _ in range(many):
        wide = chance.randint(1, 4)
        goods = [(chance.randint(1, 4), chance.randint(1, 4), chance.randint(-20, 20)) for _ in range(wide)]
        days = [some_buyer(chance, wide) for _ in range(chance.randint(1, 6))]
        told.append((goods, days))
    return told


def some_buyer(chance, wide):
    if chance.randint(0, 5) == 0:
        return None
    return [None if chance.randint(0, 3) == 0 else chance.randint(-20, 20) for _ in range(wide)]


def take_by_hand(buyer, prices):
    """What a buyer takes, said another way than in the program."""
    if buyer is None:
        return None
    gains = [(worth - price, -good) for good, (worth, price) in enumerate(zip(buyer, prices)) if worth is not None]
    gains = sorted(gain for gain in gains if gain[0] >= 0)
    return -gains[-1][1] if gains else None


def prices_by_hand(goods, prices, take):
    return [price - down + (up + down) * (good == take)
            for good, ((up, down, _), price) in enumerate(zip(goods, prices))]


def run_by_hand(market, days):
    """The takes of so many days, and the prices ahead of each of them and behind the last, without the program."""
    prices = starts_of(market)
    told, ahead = [], [prices]
    for day in range(days):
        take = take_by_hand(market[1][day % len(market[1])], prices)
        prices = prices_by_hand(market[0], prices, take)
        told.append(take)
        ahead.append(prices)
    return told, ahead


def all_sets(market):
    """All sets of the market's goods, the small ones ahead."""
    wide = len(market[0])
    return [list(goods) for many in range(1, wide + 1) for goods in combinations(range(wide), many)]


def need_by_hand(market, goods):
    return sum(Fraction(down, up + down) for up, down, _ in (market[0][good] for good in goods)) * len(market[1])


def had_by_hand(market, goods):
    told = 0
    for buyer in market[1]:
        if buyer is not None and not all(buyer[good] is None for good in goods):
            told += 1
    return told


def is_held_by_hand(market):
    return all(need_by_hand(market, goods) < had_by_hand(market, goods) for goods in all_sets(market))


def held_markets(many, seed):
    """So many markets that are held, of all sizes in turns, with starts and worths to 99 either way."""
    chance = Random(seed)
    found = 0
    while found < many:
        market = wide_market(chance, found % 4 + 1, found // 4 % 6 + 1)
        if is_held_by_hand(market):
            found += 1
            yield market


def wide_market(chance, wide, long):
    """A market of so many goods and days, its numbers anywhere within their bounds."""
    least, most = chance.choice(((1, 4), (2, 3), (3, 1), (4, 1)))
    wanted, comes = chance.choice((60, 80, 100)), chance.choice((70, 90, 100))
    span = chance.choice((5, 30, 99))
    goods = [(chance.randint(least, 4), chance.randint(1, most), chance.choice((-99, 99, chance.randint(-span, span))))
             for _ in range(wide)]
    days = []
    for _ in range(long):
        buyer = [chance.choice((-span, span, chance.randint(-span, span))) if chance.randrange(100) < wanted else None
                 for _ in range(wide)]
        days.append(buyer if chance.randrange(100) < comes else None)
    return goods, days


def refusal(function, *args, **named):
    """The very class with which a call is refused, or what it told in a tuple."""
    try:
        return (function(*args, **named),)
    except SoldError as error:
        return type(error)


def starts_of(market):
    return [start for _, _, start in market[0]]


def prices_like(chance, market, prices, most=4):
    """Prices of one rest with these, each some sums higher or lower, or the same."""
    return [price + chance.randint(-most, most) * (up + down) for (up, down, _), price in zip(market[0], prices)]


def told_in_all_ways(function, named, alone=()):
    """What a function tells, each time with one argument less by place and the others by name, in all orders."""
    names = list(named)
    told = []
    for many in range(len(names) - len(alone) + 1):
        for others in permutations(names[many:]):
            places = [named[name] for name in names[:many]]
            told.append(function(*places, **{name: named[name] for name in others}))
    return told


def assert_told_in_all_ways(test, asked):
    """What functions tell is the same by places and by names, in any order."""
    for function, named in asked:
        told = function(*named.values())
        for other in told_in_all_ways(function, named):
            test.assertEqual(kinds_of(other), kinds_of(told))


def assert_own(test, function, *args, **named):
    """What a function tells is new each time, no two lists in it are one, and none of it is what was handed in."""
    handed = deepcopy((args, named))
    first = function(*args, **named)
    kept = deepcopy(first)
    second = function(*args, **named)
    ids = [id(inner) for thing in (first, second) for inner in lists_in(thing)]
    test.assertEqual(len(set(ids)), len(ids))
    test.assertFalse(set(ids) & {id(inner) for inner in lists_in((args, list(named.values())))})
    for inner in list(lists_in(first)):
        inner.clear()
        inner.append("changed")
    test.assertEqual(kinds_of(second), kinds_of(kept))
    test.assertEqual(kinds_of(function(*args, **named)), kinds_of(kept))
    test.assertEqual((args, named), handed)


def kinds_of(thing):
    """A thing with the kind of each thing within it, so that True is not 1 and no tuple is a list."""
    if isinstance(thing, (list, tuple)):
        return (type(thing).__name__, [kinds_of(inner) for inner in thing])
    return (type(thing).__name__, thing)


def lists_in(thing):
    """All lists and dicts within a thing, itself too."""
    if isinstance(thing, (list, dict)):
        yield thing
    if isinstance(thing, (list, tuple)):
        for inner in thing:
            yield from lists_in(inner)
