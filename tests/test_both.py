"""Orders beside a pool, levelling, the least cost [44] to [46]."""

import random
import unittest

from evenmarket.both import beside, cheapest, levelled
from evenmarket.errors import BadAmount
from evenmarket.ladders import Ladder
from evenmarket.matching import entered
from evenmarket.orders import BadOrder, BadSide, NameTaken, Order
from evenmarket.pools import Pool, UnlikeUnits
from tests.checks import Case, ODD
from tests.models import Stock, enter_beside, seen, told_by
from tests.test_ladders import ladder_of, random_ladder
from tests.test_matching import buy, random_order, sell
from tests.test_pools import NO_INTEGERS, parts

# It sells at 10, 13, 16, 20, 25 and buys at 8, 7, 6, 5, 4.
POOL = Pool("corn", 100, 11, 50)
# It sells at 100 alone, and buys at 33, 16.
DEAR = Pool("corn", 100, 2, 50)
# It neither sells nor buys.
EMPTY = Pool("corn", 1, 1, 50)


def events_of(ladder, pool, order):
    return beside(ladder, pool, order)[2]


def worth_of(events):
    """The money and the units of events of trades."""
    return (sum(event[-1] * event[-2] for event in events if event[0] in ("trade", "pool")),
            sum(event[-1] for event in events if event[0] in ("trade", "pool")))


class Beside(Case):

    def test_the_pool_alone(self):
        ladder, pool, events = beside(ladder=Ladder("corn"), pool=POOL, order=buy("ox", 16, 5))
        self.same(events, [("pool", "ox", 10, 1), ("pool", "ox", 13, 1), ("pool", "ox", 16, 1), ("stands", "ox", 2)])
        self.assertTrue(ladder == Ladder("corn").placed(buy("ox", 16, 5), 2))
        self.assertTrue(pool == POOL.sold(3))
        ladder, pool, events = beside(Ladder("corn"), POOL, sell("ox", 6, 5))
        self.same(events, [("pool", "ox", 8, 1), ("pool", "ox", 7, 1), ("pool", "ox", 6, 1), ("stands", "ox", 2)])
        self.assertTrue(pool == POOL.bought(3))

    def test_a_pool_that_is_worse_or_empty(self):
        ladder = ladder_of(sell("oa", 12, 2, member="ann"), buy("ob", 9, 3, member="bob"))
        for pool in [DEAR, EMPTY]:
            for order in [buy("ox", 12, 1), buy("ox", 13, 4), buy("ox", 11, 4), buy("ox", None, 2, kind="whole")]:
                behind, rest, events = beside(ladder, pool, order)
                self.assertTrue(rest == pool)
                self.same(events, entered(ladder, order)[1])
                self.assertTrue(behind == entered(ladder, order)[0])
        for order in [sell("ox", 9, 1), sell("ox", 8, 5), sell("ox", None, 5, kind="once"),
                      buy("ox", None, 4, kind="once", most=99)]:
            behind, rest, events = beside(ladder, EMPTY, order)
            self.assertTrue(rest == EMPTY and behind == entered(ladder, order)[0])
            self.same(events, entered(ladder, order)[1])

    def test_alike_the_ladder_comes_first(self):
        ladder = ladder_of(sell("oa", 10, 2, member="ann"), sell("ob", 13, 1, member="bob"))
        self.same(events_of(ladder, POOL, buy("ox", 13, 5)),
                  [("trade", "ox", "oa", 10, 2), ("pool", "ox", 10, 1), ("trade", "ox", "ob", 13, 1),
                   ("pool", "ox", 13, 1)])
        ladder = ladder_of(buy("oa", 8, 2, member="ann"), buy("ob", 7, 1, member="bob"))
        self.same(events_of(ladder, POOL, sell("ox", 7, 5)),
                  [("trade", "oa", "ox", 8, 2), ("pool", "ox", 8, 1), ("trade", "ob", "ox", 7, 1), ("pool", "ox", 7, 1)])

    def test_units_of_the_pool_at_one_price_are_one_event(self):
        pool = Pool("corn", 10, 99, 1)
        self.same(events_of(Ladder("corn"), pool, buy("ox", 1, 20)), [("pool", "ox", 1, 20)])
        ladder = ladder_of(sell("oa", 1, 2, member="zed"))
        self.same(events_of(ladder, pool, buy("ox", 1, 20)), [("dropped", "oa", 2, "own"), ("pool", "ox", 1, 20)])

    def test_units_of_the_pool_at_two_prices_are_two_events(self):
        pool = Pool("corn", 100, 30, 1)
        self.same(pool.asks(5), [4, 4, 4, 5, 5])
        ladder = ladder_of(sell("oa", 4, 1, member="ann"))
        self.same(events_of(ladder, pool, buy("ox", 5, 6)),
                  [("trade", "ox", "oa", 4, 1), ("pool", "ox", 4, 3), ("pool", "ox", 5, 2)])

    def test_slices_of_one_order_are_one_event(self):
        ladder = ladder_of(sell("oa", 10, 5, member="ann", shows=2))
        self.same(events_of(ladder, POOL, buy("ox", 10, 7)),
                  [("trade", "ox", "oa", 10, 5), ("pool", "ox", 10, 1), ("stands", "ox", 1)])
        ladder = ladder_of(sell("oa", 11, 5, member="ann", shows=2), sell("ob", 11, 1, member="bob"))
        self.same(events_of(ladder, POOL, buy("ox", 13, 9)),
                  [("pool", "ox", 10, 1), ("trade", "ox", "oa", 11, 2), ("trade", "ox", "ob", 11, 1),
                   ("trade", "ox", "oa", 11, 3), ("pool", "ox", 13, 1), ("stands", "ox", 1)])

    def test_an_own_order_is_dropped_just_when_it_would_be_met(self):
        ladder = ladder_of(sell("oa", 11, 4, member="zed"))
        self.same(events_of(ladder, POOL, buy("ox", 20, 1)), [("pool", "ox", 10, 1)])
        self.assertTrue(beside(ladder, POOL, buy("ox", 20, 1))[0] == ladder)
        self.same(events_of(ladder, POOL, buy("ox", 20, 2)),
                  [("pool", "ox", 10, 1), ("dropped", "oa", 4, "own"), ("pool", "ox", 13, 1)])
        self.same(events_of(ladder, POOL, buy("ox", 10, 2)), [("pool", "ox", 10, 1), ("stands", "ox", 1)])
        ladder = ladder_of(sell("oa", 10, 4, member="zed"))
        self.same(events_of(ladder, POOL, buy("ox", 10, 1)), [("dropped", "oa", 4, "own"), ("pool", "ox", 10, 1)])
        # It is dropped ahead of a look at the money that is left.
        self.same(events_of(ladder, POOL, buy("ox", None, 1, kind="once", most=9)),
                  [("dropped", "oa", 4, "own"), ("dropped", "ox", 1, "most")])

    def test_most(self):
        ladder = ladder_of(sell("oa", 11, 1, member="ann"))
        for most, events in [
                (0, [("dropped", "ox", 3, "most")]), (9, [("dropped", "ox", 3, "most")]),
                (10, [("pool", "ox", 10, 1), ("dropped", "ox", 2, "most")]),
                (20, [("pool", "ox", 10, 1), ("dropped", "ox", 2, "most")]),
                (21, [("pool", "ox", 10, 1), ("trade", "ox", "oa", 11, 1), ("dropped", "ox", 1, "most")]),
                (33, [("pool", "ox", 10, 1), ("trade", "ox", "oa", 11, 1), ("dropped", "ox", 1, "most")]),
                (34, [("pool", "ox", 10, 1), ("trade", "ox", "oa", 11, 1), ("pool", "ox", 13, 1)])]:
            self.same(events_of(ladder, POOL, buy("ox", None, 3, kind="once", most=most)), events)

    def test_the_word_once_if_nothing_is_left_to_meet(self):
        self.same(events_of(Ladder("corn"), DEAR, buy("ox", None, 3, kind="once", most=100)),
                  [("pool", "ox", 100, 1), ("dropped", "ox", 2, "once")])
        self.same(events_of(Ladder("corn"), EMPTY, sell("ox", None, 3, kind="once")), [("dropped", "ox", 3, "once")])
        self.same(events_of(Ladder("corn"), POOL, buy("ox", 12, 3, kind="once")),
                  [("pool", "ox", 10, 1), ("dropped", "ox", 2, "once")])

    def test_prices_above_99(self):
        self.same(events_of(Ladder("corn"), DEAR, buy("ox", 99, 1)), [("stands", "ox", 1)])
        self.same(events_of(Ladder("corn"), DEAR, buy("ox", None, 1, kind="whole")), [("pool", "ox", 100, 1)])

    def test_whole_orders(self):
        ladder = ladder_of(sell("oa", 11, 4, member="zed"), sell("ob", 12, 2, member="bob"))
        self.same(events_of(ladder, POOL, buy("ox", 13, 4, kind="whole")),
                  [("pool", "ox", 10, 1), ("dropped", "oa", 4, "own"), ("trade", "ox", "ob", 12, 2),
                   ("pool", "ox", 13, 1)])
        for order in [buy("ox", 13, 5, kind="whole"), buy("ox", None, 9, kind="whole", most=99),
                      buy("ox", None, 99, kind="whole")]:
            behind, pool, events = beside(ladder, POOL, order)
            self.same(events, [("dropped", "ox", order.amount, "whole")])
            self.assertTrue(behind == ladder and pool == POOL)
        self.same(events_of(ladder, POOL, buy("ox", None, 3, kind="whole", most=34)),
                  [("pool", "ox", 10, 1), ("dropped", "oa", 4, "own"), ("trade", "ox", "ob", 12, 2)])
        self.same(events_of(ladder, POOL, buy("ox", None, 3, kind="whole", most=33)), [("dropped", "ox", 3, "whole")])

    def test_errors_in_order(self):
        ladder = ladder_of(sell("oa", 11, 4))
        for order in [None, sell("oa", 11, 4), buy("ox", 1, 1)]:
            self.raises(UnlikeUnits, {"one": "corn", "other": "gas"}, beside, ladder, Pool("gas", 100, 11, 50), order)
        self.raises(UnlikeUnits, {"one": "gas", "other": "corn"}, beside, Ladder("gas"), POOL, None)
        for wrong in ODD + ["oa", Order("oa", "ann", "sell", "gas", 20, 5), POOL]:
            with self.assertRaises(BadOrder) as caught:
                beside(ladder, POOL, wrong)
            self.assertEqual(caught.exception.field, "order")
            self.assertIs(caught.exception.value, wrong)
        self.raises(NameTaken, {"name": "oa"}, beside, ladder, POOL, buy("oa", 1, 1))

    def test_many_orders(self):
        for seed in range(80):
            pick = random.Random(seed)
            ladder, stand = random_ladder(pick, pick.randrange(0, 8))
            pool = Pool("corn", pick.randrange(50, 400), pick.randrange(1, 30), 7)
            stock = Stock(pool.money, pool.stock)
            for number in range(100, 120):
                order = random_order(pick, number)
                before, pooled = told_by(ladder), parts(pool)
                expected = enter_beside(stand, stock, order)
                behind, rest, events = beside(ladder, pool, order)
                self.same(events, expected)
                self.assertEqual(told_by(behind), seen(stand))
                self.assertEqual(parts(rest), ("corn", stock.money, stock.stock, 7))
                self.assertEqual([told_by(ladder), parts(pool)], [before, pooled])
                ladder, pool = behind, rest


class Levelled(Case):

    def test_neither_side(self):
        for ladder in [Ladder("corn"), ladder_of(buy("oa", 9, 3), sell("ob", 10, 3)), ladder_of(sell("ob", 9, 3))]:
            for pool in [POOL, EMPTY]:
                behind, rest, events = levelled(ladder=ladder, pool=pool)
                self.same(events, [])
                self.assertTrue(behind == ladder and rest == pool)

    def test_buys_at_the_ask(self):
        ladder = ladder_of(buy("oa", 13, 2, member="ann"), buy("ob", 12, 4, member="bob"), sell("oc", 14, 1))
        behind, rest, events = levelled(ladder, POOL)
        self.same(events, [("pool", "oa", 10, 1), ("pool", "oa", 13, 1)])
        self.assertTrue(behind == ladder.taken("buy", 2) and rest == POOL.sold(2))
        self.same(levelled(ladder_of(buy("oa", 10, 2)), POOL)[2], [("pool", "oa", 10, 1)])
        self.same(levelled(ladder_of(buy("oa", 99, 9)), DEAR)[2], [])

    def test_sells_at_the_bid(self):
        ladder = ladder_of(sell("oa", 7, 2, member="ann"), sell("ob", 8, 4, member="bob"), buy("oc", 6, 1))
        behind, rest, events = levelled(ladder, POOL)
        self.same(events, [("pool", "oa", 8, 1), ("pool", "oa", 7, 1)])
        self.assertTrue(behind == ladder.taken("sell", 2) and rest == POOL.bought(2))
        self.same(levelled(ladder_of(sell("oa", 8, 2)), POOL)[2], [("pool", "oa", 8, 1)])

    def test_units_at_one_price_with_one_order_are_one_event(self):
        pool = Pool("corn", 10, 99, 1)
        ladder = ladder_of(buy("oa", 1, 5, member="ann", shows=2), buy("ob", 1, 3, member="bob"))
        self.same(levelled(ladder, pool)[2], [("pool", "oa", 1, 2), ("pool", "ob", 1, 3), ("pool", "oa", 1, 3)])

    def test_until_the_pool_has_no_more(self):
        behind, rest, events = levelled(ladder_of(buy("oa", 99, 9)), Pool("corn", 4, 3, 1))
        self.same([events, rest.stock, behind.left("oa")], [[("pool", "oa", 2, 1), ("pool", "oa", 6, 1)], 1, 7])
        behind, rest, events = levelled(ladder_of(sell("oa", 1, 9)), Pool("corn", 8, 3, 1))
        self.same([events, parts(rest)], [[("pool", "oa", 2, 1), ("pool", "oa", 1, 1)], ("corn", 5, 5, 1)])

    def test_unlike_units(self):
        self.raises(UnlikeUnits, {"one": "corn", "other": "gas"}, levelled, Ladder("corn"), Pool("gas", 1, 1, 1))

    def test_many(self):
        sides = set()
        for seed in range(150):
            pick = random.Random(seed)
            ladder, stand = random_ladder(pick, pick.randrange(1, 10))
            pool = Pool("corn", pick.randrange(20, 400), pick.randrange(1, 30), 7)
            stock = Stock(pool.money, pool.stock)
            expected = []
            while True:
                found = []
                for side, sign in [("buy", 1), ("sell", -1)]:
                    price = stock.price(side)
                    slices = stand.slices(side)
                    if slices and price is not None and sign * price <= sign * stand.orders[slices[0][0]].price:
                        found.append((side, price))
                if not found:
                    break
                self.assertEqual(len(found), 1)
                side, price = found[0]
                sides.add(side)
                event = ("pool", stand.take(side), stock.trade(side))
                if expected and expected[-1][:3] == event:
                    expected[-1] = (*event, expected[-1][3] + 1)
                else:
                    expected.append((*event, 1))
            before = told_by(ladder)
            behind, rest, events = levelled(ladder, pool)
            self.same(events, expected)
            self.assertEqual(told_by(behind), seen(stand))
            self.assertEqual(parts(rest), ("corn", stock.money, stock.stock, 7))
            self.assertEqual(told_by(ladder), before)
            self.same(levelled(behind, rest)[2], [])
        self.assertEqual(sides, {"buy", "sell"})


class Cheapest(Case):

    def test_no_units(self):
        for side in ["buy", "sell"]:
            for pool in [POOL, EMPTY]:
                self.same(cheapest(ladder=Ladder("corn"), pool=pool, side=side, units=0), (0, 0))

    def test_the_most_units_of_the_ladder_at_the_same_money(self):
        ladder = ladder_of(sell("oa", 10, 2), sell("ob", 13, 3))
        self.same([cheapest(ladder, POOL, "sell", units) for units in range(1, 8)],
                  [(10, 1), (20, 2), (30, 2), (43, 3), (56, 4), (69, 5), (82, 5)])
        ladder = ladder_of(buy("oa", 8, 2), buy("ob", 7, 3))
        self.same([cheapest(ladder, POOL, "buy", units) for units in range(1, 8)],
                  [(8, 1), (16, 2), (24, 2), (31, 3), (38, 4), (45, 5), (52, 5)])

    def test_not_so_many_units(self):
        ladder = ladder_of(sell("oa", 10, 2), buy("ob", 1, 3))
        self.same([cheapest(ladder, POOL, "sell", 12)[1], cheapest(ladder, POOL, "sell", 13)], [2, None])
        many = 3 + len(POOL.bids(1000))
        self.same([cheapest(ladder, POOL, "buy", many)[1], cheapest(ladder, POOL, "buy", many + 1)], [3, None])
        self.same([cheapest(ladder, EMPTY, "sell", 2), cheapest(ladder, EMPTY, "sell", 3)], [(20, 2), None])
        self.same([cheapest(ladder, POOL, side, 10 ** 40) for side in ["sell", "buy"]], [None, None])
        self.same([cheapest(Ladder("corn"), EMPTY, side, 1) for side in ["sell", "buy"]], [None, None])

    def test_errors_in_order(self):
        gas = Pool("gas", 100, 11, 50)
        self.raises(UnlikeUnits, {"one": "corn", "other": "gas"}, cheapest, Ladder("corn"), gas, "sel", -1)
        for wrong in ODD + ["Buy", "sells"]:
            self.raises_given(BadSide, wrong, cheapest, Ladder("corn"), POOL, wrong, -1)
        for wrong in [-1, -10 ** 40] + NO_INTEGERS:
            self.raises_given(BadAmount, wrong, cheapest, Ladder("corn"), POOL, "buy", wrong)

    def test_against_all_splits_and_a_strangers_order(self):
        for seed in range(120):
            pick = random.Random(seed)
            ladder, stand = random_ladder(pick, pick.randrange(1, 9))
            pool = Pool("corn", pick.randrange(20, 400), pick.randrange(1, 20), 7)
            before, pooled = told_by(ladder), parts(pool)
            for side, own in [("sell", "buy"), ("buy", "sell")]:
                sign = 1 if side == "sell" else -1
                row = [price for name, price in stand.units(side)]
                for units in range(0, 25):
                    ways = []
                    for some in range(units + 1):
                        stock = Stock(pool.money, pool.stock)
                        prices = row[:some]
                        while len(prices) < units and stock.price(own) is not None:
                            prices = prices + [stock.trade(own)]
                        if some <= len(row) and len(prices) == units:
                            ways.append((sign * sum(prices), -some))
                    expected = (sign * min(ways)[0], -min(ways)[1]) if ways else None
                    self.same(cheapest(ladder, pool, side, units), expected)
                    if units:
                        order = Order("ox", "stranger", own, "corn", None, units, kind="whole")
                        events = beside(ladder, pool, order)[2]
                        if expected is None:
                            self.same(events, [("dropped", "ox", units, "whole")])
                        else:
                            self.same(worth_of(events), (expected[0], units))
                            self.assertEqual(worth_of([event for event in events if event[0] == "trade"])[1], expected[1])
            self.assertEqual([told_by(ladder), parts(pool)], [before, pooled])


if __name__ == "__main__":
    unittest.main()
