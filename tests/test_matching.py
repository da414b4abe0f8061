"""Entering, whole orders, changing [28] to [30]."""

import random
import unittest

from evenmarket.ladders import Ladder
from evenmarket.matching import changed, entered, would
from evenmarket.orders import BadOrder, NameTaken, Order, UnknownOrder
from tests.checks import Case, ODD
from tests.models import Stand, enter, seen, told_by
from tests.test_ladders import OA, OB, OC, OD, OE, STRANGERS, ladder_of


def sell(name, price, amount, **more):
    return Order(name, more.pop("member", "zed"), "sell", "corn", price, amount, **more)


def buy(name, price, amount, **more):
    return Order(name, more.pop("member", "zed"), "buy", "corn", price, amount, **more)


def random_order(pick, number):
    """An order of any kind."""
    side = pick.choice(["buy", "sell"])
    kind = pick.choice(["stays", "stays", "stays", "once", "whole"])
    price = pick.choice([None, pick.randrange(10, 16)]) if kind != "stays" else pick.randrange(10, 16)
    amount = pick.randrange(1, 9)
    shows = pick.choice([None, pick.randrange(1, amount + 1)]) if kind == "stays" else None
    most = pick.choice([None, pick.randrange(0, 100)]) if price is None and side == "buy" else None
    name = "o" + chr(97 + number // 26) + chr(97 + number % 26)
    return Order(name, pick.choice(["ann", "bob", "cid"]), side, "corn", price, amount, shows, kind, most)


class Entering(Case):

    def test_no_price_is_met(self):
        ladder = ladder_of(OA, OD)
        behind, events = entered(ladder, buy("ox", 19, 3))
        self.same(events, [("stands", "ox", 3)])
        self.assertTrue(behind == ladder.placed(buy("ox", 19, 3)))
        self.same(would(ladder, sell("ox", 19, 3, kind="once")), [("dropped", "ox", 3, "once")])
        self.same(would(Ladder("corn"), sell("ox", None, 3, kind="once")), [("dropped", "ox", 3, "once")])
        self.same(would(Ladder("corn"), buy("ox", None, 3, kind="once", most=0)), [("dropped", "ox", 3, "once")])

    def test_a_price_that_is_just_met(self):
        ladder = ladder_of(OA, OD)
        self.same(would(ladder, buy("ox", 20, 1)), [("trade", "ox", "oa", 20, 1)])
        self.same(would(ladder, sell("ox", 18, 1)), [("trade", "od", "ox", 18, 1)])
        self.same(would(ladder, sell("ox", 19, 1)), [("stands", "ox", 1)])

    def test_a_trade_is_at_the_price_that_stands(self):
        ladder = ladder_of(OA, OB, OC, OD, OE)
        self.same(would(ladder, sell("ox", 1, 5)), [("trade", "od", "ox", 18, 4), ("trade", "oe", "ox", 15, 1)])
        self.same(would(ladder, buy("ox", 99, 9)),
                  [("trade", "ox", "oa", 20, 2), ("trade", "ox", "ob", 20, 3), ("trade", "ox", "oa", 20, 3),
                   ("trade", "ox", "oc", 22, 1)])

    def test_slices_of_one_order_are_one_event(self):
        self.same(would(ladder_of(OC), buy("ox", 22, 7)), [("trade", "ox", "oc", 22, 7)])
        self.same(would(ladder_of(OC), buy("ox", 22, 9)), [("trade", "ox", "oc", 22, 7), ("stands", "ox", 2)])

    def test_an_event_between_parts_them(self):
        own = Order("oz", "zed", "sell", "corn", 22, 1)
        self.same(would(ladder_of(OC, own), buy("ox", 22, 5)),
                  [("trade", "ox", "oc", 22, 3), ("dropped", "oz", 1, "own"), ("trade", "ox", "oc", 22, 2)])

    def test_own_orders_are_dropped_just_when_met(self):
        ladder = ladder_of(OA, OB)
        behind, events = entered(ladder, buy("ox", 20, 2, member="bob"))
        self.same(events, [("trade", "ox", "oa", 20, 2)])
        self.assertTrue("ob" in behind)
        behind, events = entered(ladder, buy("ox", 20, 3, member="bob"))
        self.same(events, [("trade", "ox", "oa", 20, 2), ("dropped", "ob", 3, "own"), ("trade", "ox", "oa", 20, 1)])
        self.assertTrue("ob" not in behind)
        self.same(would(ladder.taken("sell", 1), buy("ox", 20, 9, member="ann", kind="once")),
                  [("dropped", "oa", 4, "own"), ("trade", "ox", "ob", 20, 3), ("dropped", "ox", 6, "once")])

    def test_most(self):
        ladder = ladder_of(OA, OC)
        told = [would(ladder, buy("ox", None, 6, kind="once", most=most)) for most in [0, 19, 20, 39, 100, 121, 122]]
        self.same(told, [
            [("dropped", "ox", 6, "most")], [("dropped", "ox", 6, "most")],
            [("trade", "ox", "oa", 20, 1), ("dropped", "ox", 5, "most")],
            [("trade", "ox", "oa", 20, 1), ("dropped", "ox", 5, "most")],
            [("trade", "ox", "oa", 20, 5), ("dropped", "ox", 1, "most")],
            [("trade", "ox", "oa", 20, 5), ("dropped", "ox", 1, "most")],
            [("trade", "ox", "oa", 20, 5), ("trade", "ox", "oc", 22, 1)]])

    def test_most_is_not_the_word_where_nothing_stands_any_more(self):
        self.same(would(ladder_of(OB), buy("ox", None, 4, kind="once", most=60)),
                  [("trade", "ox", "ob", 20, 3), ("dropped", "ox", 1, "once")])

    def test_own_orders_are_dropped_without_money(self):
        self.same(would(ladder_of(OB, OC), buy("ox", None, 4, kind="once", most=0, member="bob")),
                  [("dropped", "ob", 3, "own"), ("dropped", "ox", 4, "most")])

    def test_at_any_price(self):
        ladder = ladder_of(OA, OC, OD, OE)
        self.same(would(ladder, buy("ox", None, 13, kind="once")),
                  [("trade", "ox", "oa", 20, 5), ("trade", "ox", "oc", 22, 7), ("dropped", "ox", 1, "once")])
        self.same(would(ladder, sell("ox", None, 13, kind="once")),
                  [("trade", "od", "ox", 18, 4), ("trade", "oe", "ox", 15, 2), ("dropped", "ox", 7, "once")])

    def test_what_is_left_stands_with_a_slice(self):
        behind, events = entered(ladder_of(OB), buy("ox", 21, 9, shows=4))
        self.same([events, behind.left("ox"), behind.in_slice("ox")],
                  [[("trade", "ox", "ob", 20, 3), ("stands", "ox", 6)], 6, 4])
        behind, events = entered(ladder_of(OB), buy("ox", 21, 5, shows=4))
        self.same([behind.left("ox"), behind.in_slice("ox")], [2, 2])
        self.assertTrue(behind.order("ox") == buy("ox", 21, 5, shows=4))

    def test_errors(self):
        ladder = ladder_of(OA, OD)
        gas = Order("oa", "ann", "sell", "gas", 20, 5)
        for ask in (entered, would):
            for wrong in ODD + [gas, str(OA)]:
                with self.assertRaises(BadOrder) as caught:
                    ask(ladder, wrong)
                self.assertEqual(caught.exception.field, "order")
                self.assertIs(caught.exception.value, wrong)
            self.raises(NameTaken, {"name": "oa"}, ask, ladder, buy("oa", None, 1, kind="once"))
            self.raises(NameTaken, {"name": "od"}, ask, ladder=ladder, order=sell("od", 50, 1))


class Whole(Case):

    def test_wholly(self):
        ladder = ladder_of(OA, OB)
        behind, events = entered(ladder, buy("ox", 20, 8, kind="whole"))
        self.same([events, len(behind)], [[("trade", "ox", "oa", 20, 2), ("trade", "ox", "ob", 20, 3),
                                           ("trade", "ox", "oa", 20, 3)], 0])

    def test_not_at_all(self):
        ladder = ladder_of(OA, OB, OC)
        for order in [buy("ox", 20, 9, kind="whole"), buy("ox", 19, 1, kind="whole"),
                      buy("ox", None, 16, kind="whole"), buy("ox", None, 3, kind="whole", most=59),
                      sell("ox", None, 1, kind="whole")]:
            behind, events = entered(ladder, order)
            self.same(events, [("dropped", "ox", order.amount, "whole")])
            self.assertTrue(behind == ladder)

    def test_own_orders_stay_if_nothing_is_traded(self):
        ladder = ladder_of(OA, OB, OC)
        behind, events = entered(ladder, buy("ox", 20, 6, kind="whole", member="bob"))
        self.same(events, [("dropped", "ox", 6, "whole")])
        self.assertTrue(behind == ladder)
        behind, events = entered(ladder, buy("ox", 20, 5, kind="whole", member="bob"))
        self.same(events, [("trade", "ox", "oa", 20, 2), ("dropped", "ob", 3, "own"), ("trade", "ox", "oa", 20, 3)])
        self.same(behind.names("sell"), ["oc"])

    def test_with_just_enough_money(self):
        self.same(would(ladder_of(OA), buy("ox", None, 3, kind="whole", most=60)), [("trade", "ox", "oa", 20, 3)])


class Changing(Case):

    def test_changed(self):
        ladder = ladder_of(OA, OB, OD)
        behind, events = changed(ladder, "ob", Order("ox", "bob", "sell", "corn", 18, 6))
        self.same(events, [("dropped", "ob", 3, "changed"), ("trade", "od", "ox", 18, 4), ("stands", "ox", 2)])
        self.same([behind.names("sell"), behind.names("buy")], [["ox", "oa"], []])
        self.assertTrue(ladder == ladder_of(OA, OB, OD))

    def test_however_that_ends(self):
        ladder = ladder_of(OA, OB, OD).taken("sell", 1)
        for order, event in [(Order("ox", "ann", "sell", "corn", 18, 6, kind="whole"), ("dropped", "ox", 6, "whole")),
                             (Order("ox", "ann", "sell", "corn", 19, 6, kind="once"), ("dropped", "ox", 6, "once"))]:
            behind, events = changed(ladder=ladder, name="oa", order=order)
            self.same(events, [("dropped", "oa", 4, "changed"), event])
            self.assertTrue(behind == ladder.dropped("oa"))

    def test_the_place_in_the_queue_is_lost(self):
        behind, events = changed(ladder_of(OA, OB), "oa", Order("ox", "ann", "sell", "corn", 20, 5))
        self.same(behind.names("sell"), ["ob", "ox"])

    def test_errors_in_order(self):
        ladder = ladder_of(OA, OB, OD)
        for wrong in STRANGERS:
            with self.assertRaises(UnknownOrder) as caught:
                changed(ladder, wrong, None)
            self.assertIs(caught.exception.name, wrong)
        for wrong in ODD + [Order("oa", "ann", "sell", "gas", 20, 5)]:
            with self.assertRaises(BadOrder) as caught:
                changed(ladder, "oa", wrong)
            self.assertEqual(caught.exception.field, "order")
            self.assertIs(caught.exception.value, wrong)
        for name in ["oa", "ob", "od"]:
            self.raises(NameTaken, {"name": name}, changed, ladder, "oa", Order(name, "zed", "buy", "corn", 1, 1))
            self.raises(NameTaken, {"name": name}, changed, ladder, "oa", Order(name, "ann", "sell", "corn", 50, 1))
        for wrong in [Order("ox", "bob", "sell", "corn", 20, 1), Order("ox", "ann", "buy", "corn", 20, 1)]:
            with self.assertRaises(BadOrder) as caught:
                changed(ladder, "oa", wrong)
            self.assertEqual(caught.exception.field, "order")
            self.assertIs(caught.exception.value, wrong)
        self.assertTrue(ladder == ladder_of(OA, OB, OD))


class Rules(Case):
    """What holds whatever comes: many random orders, beside the model."""

    def test_many_orders(self):
        for seed in range(60):
            pick = random.Random(seed)
            ladder, stand = Ladder("corn"), Stand()
            fate = {}
            members = {}
            for number in range(40):
                if pick.randrange(6) == 0 and len(stand.orders) > 0:
                    name = pick.choice(list(stand.orders))
                    order = stand.orders[name]
                    order = Order("c" + chr(97 + number // 26) + chr(97 + number % 26), order.member, order.side,
                                  "corn", pick.randrange(10, 16), pick.randrange(1, 9))
                    expected = [("dropped", name, stand.left[name], "changed")]
                    stand.drop(name)
                    expected += enter(stand, order)
                    ladder, events = changed(ladder, name, order)
                else:
                    order = random_order(pick, number)
                    expected = enter(stand, order)
                    told = told_by(ladder)
                    foretold = would(ladder, order)
                    ladder_before = ladder
                    ladder, events = entered(ladder, order)
                    self.same(foretold, events)
                    self.assertEqual(told_by(ladder_before), told)
                self.same(events, expected)
                self.assertEqual(told_by(ladder), seen(stand))
                members[order.name] = order.member
                fate[order.name] = {"amount": order.amount, "traded": 0, "dropped": 0}
                self.follow(events, fate, members)
                self.look(ladder, fate)

    def follow(self, events, fate, members):
        for event in events:
            if event[0] == "trade":
                self.assertNotEqual(members[event[1]], members[event[2]])
                for name in event[1:3]:
                    fate[name]["traded"] += event[4]
            elif event[0] == "dropped":
                fate[event[1]]["dropped"] += event[2]

    def look(self, ladder, fate):
        buy_price, sell_price = ladder.best("buy"), ladder.best("sell")
        if buy_price is not None and sell_price is not None:
            self.assertLess(buy_price, sell_price)
        for name, told in fate.items():
            standing = ladder.left(name) if name in ladder else 0
            self.assertEqual(told["amount"], told["traded"] + told["dropped"] + standing)

    def test_one_order_is_many_of_one_unit(self):
        for seed in range(60):
            pick = random.Random(seed)
            ladder = Ladder("corn")
            for number in range(15):
                ladder, events = entered(ladder, random_order(pick, number))
            side = pick.choice(["buy", "sell"])
            member, price, units = pick.choice(["ann", "bob"]), pick.randrange(10, 16), pick.randrange(1, 12)
            at_once, events = entered(ladder, Order("whole", member, side, "corn", price, units))
            by_parts, parts = ladder, []
            for number in range(units):
                by_parts, more = entered(by_parts, Order("p" + chr(97 + number), member, side, "corn", price, 1))
                parts += more
            own = 1 if side == "buy" else 2
            other = 3 - own
            at_once_met = [event[other] for event in events if event[0] == "trade" for _ in range(event[4])]
            self.assertEqual(at_once_met, [event[other] for event in parts if event[0] == "trade"])
            standing = at_once.left("whole") if "whole" in at_once else 0
            names = [name for name in by_parts.names(side) if name[0] == "p"]
            self.assertEqual(len(names), standing)
            self.assertEqual([price for name, price in at_once.units(side)],
                             [price for name, price in by_parts.units(side)])
            self.assertEqual([name if name != "whole" else "p" for name, price in at_once.units(side)],
                             [name if name[0] != "p" else "p" for name, price in by_parts.units(side)])


if __name__ == "__main__":
    unittest.main()
