"""Auctions at one price [31] to [39]."""

import random
import unittest

from evenmarket.clearing import BadBid, BidTaken, BothSides, NoClearing, TooManyBids
from evenmarket.clearing import best, clearing, counts, fills, gain, greatest_gain, is_paper, left, pairs, paper_of
from evenmarket.clearing import turning, volume
from evenmarket.errors import BadPrice
from tests.checks import Case, ODD, RESERVED, WRONG_NAMES

BIDS = [("a", "ann", "buy", 10, 1), ("b", "bob", "buy", 5, 1), ("c", "cy", "sell", 4, 1), ("d", "dan", "sell", 9, 1)]
NO_PRICES = [0, 100, -1, 10 ** 40, True, False, "5", (), [], {}, (5,), [5], 5.0]
PRICES = range(1, 100)


def buys(*told):
    """Orders to buy of tuples (price, amount)."""
    return [("b" + chr(97 + at), "ann", "buy", price, amount) for at, (price, amount) in enumerate(told)]


def sells(*told):
    return [("s" + chr(97 + at), "zed", "sell", price, amount) for at, (price, amount) in enumerate(told)]


def random_bids(pick, many, low=1, high=99, most=12):
    """Orders of six members, each of whom has a side."""
    bids = []
    for at in range(many):
        member = pick.randrange(6)
        side = "buy" if member < 3 else "sell"
        price = pick.choice([None, pick.randrange(low, high + 1), pick.randrange(low, high + 1)])
        bids.append(("o" + chr(97 + at), "m" + chr(97 + member), side, price, pick.randrange(1, most + 1)))
    return bids


def units_of(bids, side):
    """Tuples (name, worth) of the units of a side, in turn."""
    units = []
    for name, member, one, price, amount in bids:
        if one == side:
            worth = price if price is not None else 99 if side == "buy" else 1
            units += [(name, worth)] * amount
    return sorted(units, key=lambda unit: -unit[1] if side == "buy" else unit[1])


def plain_counts(bids, price):
    return (len([1 for name, worth in units_of(bids, "buy") if worth >= price]),
            len([1 for name, worth in units_of(bids, "sell") if worth <= price]))


def plain_clearing(bids, told):
    """The clearing price by the words of [33], of all prices at once."""
    volumes = {price: min(plain_counts(bids, price)) for price in PRICES}
    if max(volumes.values()) == 0:
        return None
    over = {price: plain_counts(bids, price)[0] - plain_counts(bids, price)[1] for price in PRICES
            if volumes[price] == max(volumes.values())}
    over = {price: over[price] for price in over if abs(over[price]) == min(map(abs, over.values()))}
    if 0 in over.values():
        found = [price for price in over if abs(price - told) == min(abs(one - told) for one in over)]
        assert len(found) == 1
        return found[0], max(volumes.values())
    ends = [price for price in over if over[price] > 0][-1:] + [price for price in over if over[price] < 0][:1]
    if len(ends) == 2:
        assert ends[1] == ends[0] + 1
        return ends[1] if told >= ends[1] else ends[0], max(volumes.values())
    return ends[0], max(volumes.values())


def most_gain(sold, bought):
    """The greatest gain of any trades of some units, tried out."""
    if not sold:
        return 0
    found = most_gain(sold[1:], bought)
    for at, worth in enumerate(bought):
        if worth >= sold[0]:
            found = max(found, worth - sold[0] + most_gain(sold[1:], bought[:at] + bought[at + 1:]))
    return found


def plain_bound(bids, mark):
    return (sum(max(0, worth - mark) for name, worth in units_of(bids, "buy"))
            + sum(max(0, mark - worth) for name, worth in units_of(bids, "sell")))


CALLS = [lambda bids: counts(bids, None), lambda bids: volume(bids, None), lambda bids: left(bids, None), best,
         lambda bids: clearing(bids, None), lambda bids: fills(bids, None), lambda bids: pairs(bids, None),
         lambda bids: gain(bids, None), greatest_gain, lambda bids: is_paper(bids, None),
         lambda bids: paper_of(bids, None), lambda bids: turning(bids, None, None, "price")]


class Lists(Case):

    def test_no_auction_orders(self):
        good = ("a", "ann", "buy", 10, 1)
        wrong = ODD + [list(good), good[:4], good + (1,), ("a", "ann", "buy", 10, 1, None), "a ann buy 10 1"]
        for at, parts in enumerate([WRONG_NAMES, WRONG_NAMES + RESERVED, ["Buy", "both", "", None, 1, ["buy"]],
                                    NO_PRICES, [0, 13, -1, 10 ** 40, True, False, None, "1", (), [], {}, 1.0]]):
            wrong += [good[:at] + (part,) + good[at + 1:] for part in parts]
        for bid in wrong:
            for call in CALLS:
                self.raises_given(BadBid, bid, call, [bid])
            self.raises_given(BadBid, bid, best, [good, good, bid, None])
        self.raises(BadBid, {"given": None}, best, [good] * 13 + [None])

    def test_least_and_greatest_values(self):
        for bid in [("house", "abcdefgh", "buy", 1, 1), ("money", "a", "sell", 99, 12), ("a", "b", "buy", None, 12)]:
            self.assertIsNone(best([bid]))

    def test_too_many(self):
        many = [("o" + chr(97 + at), "ann", "buy", 5, 1) for at in range(15)]
        self.assertIsNone(best(many[:12]))
        for call in CALLS:
            self.raises(TooManyBids, {"given": 13}, call, many[:13])
        self.raises(TooManyBids, {"given": 15}, best, many)
        self.raises(TooManyBids, {"given": 13}, best, [many[0]] * 13)

    def test_names_twice(self):
        one, other = ("a", "ann", "buy", 5, 1), ("b", "bob", "sell", 5, 1)
        for call in CALLS:
            self.raises(BidTaken, {"given": "a"}, call, [one, other, one])
        self.raises(BidTaken, {"given": "b"}, best, [one, other, other, one])
        self.raises(BidTaken, {"given": "a"}, best, [one, ("c", "ann", "sell", 5, 1), ("a", "eve", "buy", 5, 1)])

    def test_both_sides(self):
        bids = [("a", "ann", "buy", 5, 1), ("b", "bob", "sell", 5, 1), ("c", "bob", "buy", 5, 1), ("d", "ann", "sell", 5, 1)]
        for call in CALLS:
            self.raises(BothSides, {"given": "bob"}, call, bids)
        self.raises(BothSides, {"given": "ann"}, best, [bids[0], bids[3], bids[1], bids[2]])
        self.assertEqual(best([bids[0], ("e", "ann", "buy", 9, 1), bids[1]]), (5, 9))

    def test_prices(self):
        for wrong in NO_PRICES + [None]:
            for call in [counts, volume, left, clearing, fills, pairs, gain, paper_of]:
                self.raises_given(BadPrice, wrong, call, BIDS, wrong)
                self.raises_given(BadPrice, wrong, call, [], wrong)
            self.raises_given(BadPrice, wrong, turning, BIDS, wrong, None, "price")

    def test_by_names_and_as_tuples(self):
        bids = tuple(BIDS)
        self.same([counts(orders=bids, price=5), volume(price=5, orders=bids), left(orders=bids, price=9),
                   best(orders=bids), clearing(orders=bids, told=5), fills(orders=bids, price=6),
                   pairs(orders=bids, price=6), gain(orders=bids, price=6), greatest_gain(orders=bids),
                   is_paper(orders=bids, value=(6, 1, 1, 1, 5)), paper_of(orders=bids, told=5),
                   turning(orders=bids, told=5, side="buy", price=None)],
                  [(2, 1), 1, -1, (4, 10), (6, 1), {"a": 1, "c": 1}, [("a", "c", 1)], 6, 6, True, (6, 1, 1, 1, 5), 1])

    def test_arguments_stay_and_answers_are_new(self):
        bids = list(BIDS)
        for _ in range(2):
            self.same(pairs(bids, 6), [("a", "c", 1)])
            pairs(bids, 6).clear()
            fills(bids, 6).clear()
            turning(bids, 5, "buy", None)
            paper_of(bids, 5)
            self.assertEqual(bids, BIDS)


class Clearing(Case):

    def test_counts(self):
        bids = buys((None, 3), (10, 2), (1, 1)) + sells((None, 4), (10, 5), (99, 6))
        self.same([counts(bids, 1), counts(bids, 9), counts(bids, 10), counts(bids, 11), counts(bids, 99)],
                  [(6, 4), (5, 4), (5, 9), (3, 9), (3, 15)])
        self.same([volume(bids, price) for price in [1, 9, 10, 11, 99]], [4, 4, 5, 3, 3])
        self.same([left(bids, price) for price in [1, 9, 10, 11, 99]], [2, 1, -4, -6, -12])
        self.same([counts([], 5), volume([], 5), left([], 5)], [(0, 0), 0, 0])

    def test_no_volume(self):
        for bids in [[], buys((None, 3)), sells((5, 3)), buys((4, 3)) + sells((5, 3))]:
            self.same([best(bids), clearing(bids, 5), fills(bids, 5), pairs(bids, 5), gain(bids, 5),
                       greatest_gain(bids)], [None, None, {}, [], 0, 0])
            self.raises(NoClearing, {}, paper_of, bids, 5)

    def test_none_counts_as_the_end(self):
        self.same(best(buys((None, 1)) + sells((None, 1))), (1, 99))
        self.same(best(buys((99, 1)) + sells((99, 1))), (99, 99))
        self.same(best(buys((1, 1)) + sells((1, 1))), (1, 1))
        self.same(gain(buys((None, 2)) + sells((None, 2)), 50), 196)

    def test_nothing_left_over(self):
        bids = buys((20, 3)) + sells((10, 3))
        self.same([clearing(bids, told) for told in [1, 9, 10, 15, 20, 21, 99]],
                  [(10, 3), (10, 3), (10, 3), (15, 3), (20, 3), (20, 3), (20, 3)])

    def test_units_to_buy_left_over(self):
        bids = buys((20, 5)) + sells((10, 3))
        self.same([clearing(bids, told) for told in [1, 15, 99]], [(20, 3)] * 3)

    def test_units_to_sell_left_over(self):
        bids = buys((20, 3)) + sells((10, 5))
        self.same([clearing(bids, told) for told in [1, 15, 99]], [(10, 3)] * 3)

    def test_both_left_over(self):
        # Up to 15 one unit to buy is left over, from 16 on one to sell.
        bids = buys((20, 3), (15, 1)) + sells((10, 3), (16, 1))
        self.same([left(bids, 15), left(bids, 16)], [1, -1])
        self.same([clearing(bids, told) for told in [1, 15, 16, 17, 99]], [(15, 3), (15, 3), (16, 3), (16, 3), (16, 3)])

    def test_the_fewest_left_over(self):
        # The same volume from 10 to 20, but from 16 on fewer units to buy are left over.
        bids = buys((20, 4), (15, 5)) + sells((10, 3))
        self.same([best(bids), clearing(bids, 12)], [(10, 20), (20, 3)])

    def test_beside_the_plain_words(self):
        pick = random.Random(11)
        for seed in range(250):
            bids = random_bids(pick, pick.randrange(0, 13), *pick.choice([(1, 99), (45, 55), (48, 51)]),
                               pick.choice([1, 3, 12]))
            told = pick.choice([1, 40, 49, 50, 51, 60, 99])
            self.same(clearing(bids, told), plain_clearing(bids, told))
            volumes = [min(plain_counts(bids, price)) for price in PRICES]
            self.same([volume(bids, price) for price in PRICES], volumes)
            self.same([counts(bids, price) for price in PRICES], [plain_counts(bids, price) for price in PRICES])
            span = [price for price in PRICES if volumes[price - 1] == max(volumes) > 0]
            self.same(best(bids), (span[0], span[-1]) if span else None)
            self.assertEqual(span, list(range(span[0], span[-1] + 1)) if span else [])

    def test_one_more_order(self):
        pick = random.Random(12)
        for _ in range(150):
            bids = random_bids(pick, pick.randrange(1, 10), 40, 60, 4)
            told = pick.randrange(40, 61)
            before = clearing(bids, told)
            for side, turn in [("buy", 1), ("sell", -1)]:
                more = bids + [("x", "x" + side, side, pick.choice([None, pick.randrange(40, 61)]), pick.randrange(1, 5))]
                behind = clearing(more, told)
                if before is not None:
                    self.assertGreaterEqual(behind[1], before[1])
                    self.assertGreaterEqual(turn * behind[0], turn * before[0])
                    other = "sell" if side == "buy" else "buy"
                    for name in [bid[0] for bid in bids if bid[2] == other]:
                        self.assertGreaterEqual(fills(more, behind[0]).get(name, 0), fills(bids, before[0]).get(name, 0))


class Fills(Case):

    def test_better_prices_first(self):
        bids = buys((10, 2), (30, 2), (20, 2)) + sells((9, 3))
        self.assertEqual(fills(bids, 10), {"bb": 2, "bc": 1, "sa": 3})
        self.same(pairs(bids, 10), [("bb", "sa", 2), ("bc", "sa", 1)])
        bids = sells((10, 2), (5, 2), (8, 2)) + buys((10, 3))
        self.assertEqual(fills(bids, 10), {"sb": 2, "sc": 1, "ba": 3})

    def test_earlier_ones_first_at_equal_prices(self):
        bids = buys((10, 2), (10, 2)) + sells((10, 3))
        self.assertEqual(fills(bids, 10), {"ba": 2, "bb": 1, "sa": 3})
        bids = buys((10, 3)) + sells((10, 2), (10, 2))
        self.same(pairs(bids, 10), [("ba", "sa", 2), ("ba", "sb", 1)])
        self.same(pairs(bids[::-1], 10), [("ba", "sb", 2), ("ba", "sa", 1)])

    def test_none_is_equal_to_the_end(self):
        bids = buys((99, 1), (None, 1)) + sells((1, 1))
        self.assertEqual(fills(bids, 50), {"ba": 1, "sa": 1})
        self.assertEqual(fills([bids[1], bids[0], bids[2]], 50), {"bb": 1, "sa": 1})
        bids = sells((1, 1), (None, 1)) + buys((5, 1))
        self.assertEqual(fills(bids, 5), {"sa": 1, "ba": 1})
        self.assertEqual(fills([bids[1], bids[0], bids[2]], 5), {"sb": 1, "ba": 1})

    def test_prices_that_do_not_trade(self):
        bids = buys((20, 4)) + sells((10, 4), (15, 4))
        self.same([pairs(bids, 9), pairs(bids, 10), pairs(bids, 15), pairs(bids, 20), pairs(bids, 21)],
                  [[], [("ba", "sa", 4)], [("ba", "sa", 4)], [("ba", "sa", 4)], []])

    def test_units_of_the_same_two_orders_are_one_pair(self):
        bids = buys((20, 5), (19, 4)) + sells((10, 2), (11, 6), (12, 9))
        self.same(pairs(bids, 15), [("ba", "sa", 2), ("ba", "sb", 3), ("bb", "sb", 3), ("bb", "sc", 1)])

    def test_beside_the_plain_words(self):
        pick = random.Random(13)
        for _ in range(150):
            bids = random_bids(pick, pick.randrange(0, 13), 45, 55)
            for price in [1, 44, 47, 50, 53, 56, 99]:
                buyers = [name for name, worth in units_of(bids, "buy") if worth >= price]
                sellers = [name for name, worth in units_of(bids, "sell") if worth <= price]
                many = min(len(buyers), len(sellers))
                laid = list(zip(buyers, sellers))
                self.assertEqual([(buyer, seller) for buyer, seller, amount in pairs(bids, price)
                                  for _ in range(amount)], laid)
                told = pairs(bids, price)
                self.assertTrue(all(one[:2] != other[:2] for one, other in zip(told, told[1:])))
                both = buyers[:many] + sellers[:many]
                self.assertEqual(fills(bids, price), {name: both.count(name) for name in both})
                worths = {**dict(units_of(bids, "buy")), **dict(units_of(bids, "sell"))}
                self.assertEqual(gain(bids, price), sum(worths[buyer] - worths[seller] for buyer, seller in laid))


class Gain(Case):

    def test_all_trades_of_small_lists(self):
        pick = random.Random(14)
        for _ in range(200):
            bids = random_bids(pick, pick.randrange(0, 6), *pick.choice([(1, 99), (45, 55)]), 2)
            sold = [worth for name, worth in units_of(bids, "sell")]
            bought = [worth for name, worth in units_of(bids, "buy")]
            self.same(greatest_gain(bids), most_gain(sold, bought))
            span = best(bids)
            for price in PRICES:
                self.assertLessEqual(gain(bids, price), greatest_gain(bids))
                if span is not None and span[0] <= price <= span[1]:
                    self.same(gain(bids, price), greatest_gain(bids))

    def test_none_is_worth_the_end(self):
        self.same(greatest_gain(buys((None, 1), (50, 1)) + sells((None, 1), (50, 1))), 98)
        self.same(greatest_gain([]), 0)


class Papers(Case):

    def test_one_part_otherwise(self):
        bids = buys((20, 3), (15, 2)) + sells((10, 4), (18, 2))
        paper = paper_of(bids, 12)
        self.same(paper, (15, 4, 3, 4, 15))
        self.assertIs(is_paper(bids, paper), True)
        for at in range(5):
            for part in range(-1, 101):
                value = paper[:at] + (part,) + paper[at + 1:]
                self.assertIs(is_paper(bids, value), is_paper_plainly(bids, value), value)
        for odd in ODD + [1.0, "15"]:
            for at in range(5):
                self.assertIs(is_paper(bids, paper[:at] + (odd,) + paper[at + 1:]), False)

    def test_values_that_are_none(self):
        bids = BIDS
        for value in ODD + [list(paper_of(bids, 5)), paper_of(bids, 5)[:4], paper_of(bids, 5) + (1,),
                            (6, True, 1, 1, 5), (6, 1, True, 1, 5), (6, 1, 1, 1, True), (), "61115", None]:
            self.assertIs(is_paper(bids, value), False)

    def test_no_paper_without_volume(self):
        for bids in [[], buys((5, 3)), buys((4, 3)) + sells((5, 3))]:
            for price in PRICES:
                self.assertIs(is_paper(bids, (price, 0, 0, 0, price)), False)
            self.raises(NoClearing, {}, paper_of, bids, 50)

    def test_above_and_beneath_are_not_greater_than_the_amount(self):
        # At 10 three units trade, as at 20, but nine are to be bought at higher prices.
        bids = buys((20, 9)) + sells((10, 3))
        self.assertIs(is_paper(bids, (10, 3, 9, 0, 20)), False)
        self.assertIs(is_paper(bids, (20, 3, 0, 3, 20)), True)
        bids = sells((10, 9)) + buys((20, 3))
        self.assertIs(is_paper(bids, (20, 3, 0, 9, 10)), False)
        self.assertIs(is_paper(bids, (10, 3, 3, 0, 10)), True)

    def test_the_mark_is_a_price(self):
        bids = buys((1, 1)) + sells((1, 1))
        self.assertIs(is_paper(bids, (1, 1, 0, 0, 1)), True)
        self.assertIs(is_paper(bids, (1, 1, 0, 0, 0)), False)
        bids = buys((None, 1)) + sells((99, 1))
        self.assertIs(is_paper(bids, (99, 1, 0, 0, 99)), True)
        self.assertIs(is_paper(bids, (99, 1, 0, 0, 100)), False)

    def test_papers_of_many_lists(self):
        pick = random.Random(15)
        for _ in range(150):
            bids = random_bids(pick, pick.randrange(0, 13), *pick.choice([(1, 99), (45, 55)]), pick.choice([2, 12]))
            told = pick.randrange(1, 100)
            found = plain_clearing(bids, told)
            if found is None:
                self.raises(NoClearing, {}, paper_of, bids, told)
                continue
            paper = paper_of(bids, told)
            self.assertEqual(paper[:2], found)
            self.assertIs(is_paper(bids, paper), True)
            self.assertIs(is_paper_plainly(bids, paper), True)
            marks = [mark for mark in PRICES if is_paper_plainly(bids, paper[:4] + (mark,))]
            self.assertEqual(paper[4], marks[0])
            self.assertEqual(max(min(plain_counts(bids, price)) for price in PRICES), paper[1])
            for _ in range(20):
                value = tuple(part + pick.choice([0, 0, 0, 1, -1]) for part in paper)
                self.assertIs(is_paper(bids, value), is_paper_plainly(bids, value))


def is_paper_plainly(bids, value):
    price, amount, above, beneath, mark = value
    if price not in PRICES or mark not in PRICES:
        return False
    buyers = [worth for name, worth in units_of(bids, "buy")]
    sellers = [worth for name, worth in units_of(bids, "sell")]
    traded = min(plain_counts(bids, price))
    worth = sum(buyers[:traded]) - sum(sellers[:traded])
    return (amount == traded > 0 and above == len([one for one in buyers if one > price]) <= amount
            and beneath == len([one for one in sellers if one < price]) <= amount and plain_bound(bids, mark) == worth)


class Turning(Case):

    def plainly(self, bids, told, side, price):
        before = plain_clearing(bids, told)
        for units in range(1, 13):
            behind = plain_clearing(bids + [("new", "new", side, price, units)], told)
            if (before and before[0]) != (behind and behind[0]):
                return units
        return None

    def test_turning(self):
        bids = buys((20, 3)) + sells((10, 5))
        self.same([turning(bids, 15, "buy", None), turning(bids, 15, "buy", 12), turning(bids, 15, "buy", 9),
                   turning(bids, 15, "sell", None), turning(bids, 15, "sell", 5), turning(bids, 15, "sell", 10)],
                  [2, 2, None, 3, 3, None])

    def test_it_makes_a_price(self):
        self.same([turning(buys((20, 3)), 15, "sell", 20), turning(buys((20, 3)), 15, "sell", 21),
                   turning(sells((20, 3)), 15, "buy", None), turning([], 15, "buy", None)], [1, None, 1, None])

    def test_units_count_up_to_12(self):
        # As soon as no units to sell are left over, the price nearest to the one told is it.
        self.same([turning(buys((20, 1)) + sells((10, 6), (10, more)), 15, "buy", 20) for more in range(1, 12)],
                  [6, 7, 8, 9, 10, 11, 12, None, None, None, None])

    def test_beside_the_plain_words(self):
        pick = random.Random(16)
        for _ in range(40):
            bids = random_bids(pick, pick.randrange(0, 8), 45, 55, 5)
            told = pick.randrange(44, 57)
            for side in ["buy", "sell"]:
                for price in [None, pick.randrange(44, 57)]:
                    self.same(turning(bids, told, side, price), self.plainly(bids, told, side, price))

    def test_errors(self):
        many = buys(*[(20, 1)] * 12)
        for wrong in ODD + ["Buy", "both"]:
            self.raises_given(BadBid, wrong, turning, many, 5, wrong, "price")
        for wrong in NO_PRICES:
            self.raises_given(BadPrice, wrong, turning, many, 5, "buy", wrong)
        self.raises(TooManyBids, {"given": 13}, turning, many, 5, "buy", None)
        self.raises(TooManyBids, {"given": 13}, turning, many, 5, "sell", 20)
        self.same(turning(many[:11], 5, "sell", 20), 1)


if __name__ == "__main__":
    unittest.main()
