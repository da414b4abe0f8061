"""Ladders: slices, what changes them, what they tell [25] to [27]."""

import random
import unittest

from evenmarket.errors import BadAmount, BadUnit
from evenmarket.ladders import Ladder
from evenmarket.orders import BadOrder, BadSide, Crossing, NameTaken, Order, UnknownOrder
from tests.checks import Case, ODD, RESERVED, WRONG_NAMES
from tests.models import Stand, seen, told_by

OA = Order("oa", "ann", "sell", "corn", 20, 5, 2)
OB = Order("ob", "bob", "sell", "corn", 20, 3)
OC = Order("oc", "cid", "sell", "corn", 22, 7, 3)
OD = Order("od", "dan", "buy", "corn", 18, 4, 1)
OE = Order("oe", "eve", "buy", "corn", 15, 2)
ALL = [OA, OB, OC, OD, OE]
NO_INTEGERS = [True, False, "1", (), [], {}, [1], (1,), 1.0]
# No value of these is the name of an order that stands.
STRANGERS = ["ox", "", "oa ", "OA", "corn", ("oa",), ["oa"], {"oa": 1}, OA] + ODD


def ladder_of(*orders):
    ladder = Ladder("corn")
    for order in orders:
        ladder = ladder.placed(order)
    return ladder


def random_ladder(pick, steps):
    """A ladder and its model after some random steps; prices of buys are below those of sells."""
    ladder, stand = Ladder("corn"), Stand()
    for number in range(steps):
        names = list(stand.orders)
        deed = pick.choice(["place", "place", "place", "take", "drop", "lessen"])
        side = pick.choice(["buy", "sell"])
        if deed == "place":
            amount = pick.randrange(1, 9)
            price = pick.randrange(10, 13) if side == "buy" else pick.randrange(13, 16)
            order = Order("o" + chr(97 + number // 26) + chr(97 + number % 26), pick.choice(["ann", "bob"]), side,
                          "corn", price, amount, pick.choice([None, 1, pick.randrange(1, amount + 1)]))
            left = pick.choice([None, amount, pick.randrange(1, amount + 1)])
            ladder = ladder.placed(order, left)
            stand.add(order, amount if left is None else left)
        elif deed == "take":
            units = pick.randrange(0, len(stand.units(side)) // 2 + 1)
            ladder = ladder.taken(side, units)
            for _ in range(units):
                stand.take(side)
        elif names and deed == "drop":
            name = pick.choice(names)
            ladder = ladder.dropped(name)
            stand.drop(name)
        elif names:
            name = pick.choice(names)
            if stand.left[name] > 1:
                units = pick.randrange(1, stand.left[name])
                ladder = ladder.lessened(name, units)
                stand.lessen(name, units)
    return ladder, stand


class Ladders(Case):

    def test_units(self):
        for unit in ["corn", "a", "abcdefgh"]:
            self.same([Ladder(unit).unit, Ladder(unit=unit).unit, len(Ladder(unit))], [unit, unit, 0])
        for wrong in RESERVED + WRONG_NAMES + ODD:
            self.raises_given(BadUnit, wrong, Ladder, wrong)

    def test_an_empty_ladder(self):
        ladder = Ladder("corn")
        for side in ["buy", "sell"]:
            self.same([ladder.names(side), ladder.best(side), ladder.shown(side), ladder.units(side),
                       ladder.worth(side, 0), ladder.worth(side, 1)], [[], None, [], [], 0, None])
            self.assertTrue(ladder.taken(side, 0) == ladder)

    def test_in(self):
        ladder = ladder_of(*ALL)
        self.same([name in ladder for name in ["oa", "ob", "oc", "od", "oe"]], [True] * 5)
        for stranger in STRANGERS:
            self.assertIs(stranger in ladder, False)
        self.same([len(ladder), len(ladder.dropped("oc"))], [5, 4])

    def test_equal(self):
        ladder = ladder_of(*ALL)
        self.assertTrue(ladder == ladder_of(OE, OD, OC, OA, OB))
        self.assertFalse(ladder != ladder_of(*ALL))
        for other in [ladder_of(OB, OA, OC, OD, OE), ladder_of(OA, OB, OC, OD), ladder.taken("sell", 1),
                      ladder.taken("sell", 5), ladder.lessened("oc", 1), Ladder("corn"), Ladder("gas"),
                      ladder_of(OA, OB, OC, OD, Order("oe", "ann", "buy", "corn", 15, 2)), None, "corn", OA, []]:
            self.assertFalse(ladder == other)
            self.assertTrue(ladder != other)
        self.assertFalse(Ladder("corn") == Ladder("gas"))

    def test_ladders_that_differ_in_a_slice_alone(self):
        # Both have the order with 3 units left, the one with 1 of them in its slice, the other one with 2.
        one = ladder_of(OA).taken("sell", 1).lessened("oa", 1)
        other = Ladder("corn").placed(OA, 3)
        self.same([one.left("oa"), other.left("oa"), one.in_slice("oa"), other.in_slice("oa")], [3, 3, 1, 2])
        self.assertFalse(one == other)
        self.assertTrue(one != other)

    def test_placed(self):
        ladder = Ladder("corn").placed(order=OA, left=None).placed(OB, left=2)
        self.same(ladder.names("sell"), ["oa", "ob"])
        self.same([ladder.left("oa"), ladder.in_slice("oa"), ladder.left("ob"), ladder.in_slice("ob")], [5, 2, 2, 2])
        self.assertTrue(ladder.order("ob") == OB)

    def test_placed_with_fewer_left(self):
        self.same([Ladder("corn").placed(OC, left).in_slice("oc") for left in range(1, 8)], [1, 2, 3, 3, 3, 3, 3])
        self.same([Ladder("corn").placed(OC, left).left("oc") for left in range(1, 8)], [1, 2, 3, 4, 5, 6, 7])

    def test_queues_by_price(self):
        self.same(ladder_of(OC, OB, OE, OA, OD).names("sell"), ["ob", "oa", "oc"])
        self.same(ladder_of(OC, OB, OE, OA, OD).names("buy"), ["od", "oe"])

    def test_placed_errors(self):
        ladder = ladder_of(OA, OD)
        gas = Order("og", "ann", "sell", "gas", 20, 5)
        once = Order("oo", "ann", "sell", "corn", 20, 5, kind="once")
        whole = Order("ow", "ann", "buy", "corn", None, 5, kind="whole")
        for wrong in ODD + [gas, once, whole, str(OA)]:
            with self.assertRaises(BadOrder) as caught:
                ladder.placed(wrong, "left")
            self.assertEqual(caught.exception.field, "order")
            self.assertIs(caught.exception.value, wrong)
        self.raises(NameTaken, {"name": "oa"}, ladder.placed, Order("oa", "zed", "buy", "corn", 50, 5), "left")
        self.raises(NameTaken, {"name": "od"}, ladder.placed, OD)
        for wrong in [0, 6, -1, 99] + NO_INTEGERS:
            self.raises_given(BadAmount, wrong, ladder.placed, Order("ox", "zed", "buy", "corn", 50, 5), wrong)
        self.raises(Crossing, {"name": "ox"}, ladder.placed, Order("ox", "ann", "buy", "corn", 20, 5), 5)
        self.raises(Crossing, {"name": "ox"}, ladder.placed, Order("ox", "bob", "buy", "corn", 99, 1))
        self.raises(Crossing, {"name": "ox"}, ladder.placed, Order("ox", "dan", "sell", "corn", 18, 1))
        self.assertEqual(ladder.placed(Order("ox", "zed", "buy", "corn", 19, 1)).best("buy"), 19)
        self.assertEqual(ladder.placed(Order("ox", "zed", "sell", "corn", 19, 1)).best("sell"), 19)

    def test_taken_slices_come_back_at_the_end(self):
        ladder = ladder_of(OA, OB, OC)
        self.same(ladder.units("sell"), [("oa", 20)] * 2 + [("ob", 20)] * 3 + [("oa", 20)] * 3 + [("oc", 22)] * 7)
        self.same([ladder.taken("sell", units).names("sell") for units in [1, 2, 4, 5, 7, 8]],
                  [["oa", "ob", "oc"], ["ob", "oa", "oc"], ["ob", "oa", "oc"], ["oa", "oc"], ["oa", "oc"], ["oc"]])
        behind = ladder.taken(side="sell", units=7)
        self.same([behind.left("oa"), behind.in_slice("oa"), len(behind)], [1, 1, 2])
        self.same([len(ladder.taken("sell", 15)), ladder.taken("sell", 15).best("sell")], [0, None])

    def test_taken_one_after_the_other(self):
        pick = random.Random(5)
        for _ in range(60):
            ladder, stand = random_ladder(pick, 12)
            for side in ["buy", "sell"]:
                row = ladder.units(side)
                for units in range(len(row) + 1):
                    first = ladder.taken(side, units)
                    self.assertEqual(first.units(side), row[units:])
                    more = pick.randrange(0, len(row) - units + 1)
                    self.assertTrue(first.taken(side, more) == ladder.taken(side, units + more))

    def test_taken_errors(self):
        ladder = ladder_of(*ALL)
        for wrong in ["Buy", "corn", "buy "] + ODD:
            self.raises_given(BadSide, wrong, ladder.taken, wrong, "units")
        for wrong in [-1, 16, 10 ** 40, None] + NO_INTEGERS:
            self.raises_given(BadAmount, wrong, ladder.taken, "sell", wrong)
        self.raises(BadAmount, {"given": 7}, ladder.taken, "buy", 7)
        self.same(len(ladder.taken("buy", 6)), 3)

    def test_lessened(self):
        ladder = ladder_of(OC, OA, OB)
        self.same([(ladder.lessened("oc", units).left("oc"), ladder.lessened(name="oc", units=units).in_slice("oc"))
                   for units in range(1, 7)], [(6, 3), (5, 3), (4, 3), (3, 3), (2, 2), (1, 1)])
        self.same(ladder.lessened("oa", 4).names("sell"), ["oa", "ob", "oc"])
        self.same(ladder.taken("sell", 1).lessened("oa", 3).in_slice("oa"), 1)
        self.same(ladder.taken("sell", 2).lessened("oa", 1).names("sell"), ["ob", "oa", "oc"])
        # A slice comes back with as many units as the order shows, however many it had at first.
        behind = Ladder("corn").placed(OC).lessened("oc", 1).taken("sell", 3)
        self.same([behind.left("oc"), behind.in_slice("oc")], [3, 3])

    def test_lessened_errors(self):
        ladder = ladder_of(OA, OB).taken("sell", 1)
        for wrong in STRANGERS:
            with self.assertRaises(UnknownOrder) as caught:
                ladder.lessened(wrong, "units")
            self.assertIs(caught.exception.name, wrong)
        for wrong in [0, 4, 5, -1, None] + NO_INTEGERS:
            self.raises_given(BadAmount, wrong, ladder.lessened, "oa", wrong)
        single = Ladder("corn").placed(OA, 1)
        self.raises(BadAmount, {"given": 1}, single.lessened, "oa", 1)

    def test_dropped(self):
        ladder = ladder_of(*ALL)
        for name in ["oa", "ob", "oc", "od", "oe"]:
            behind = ladder.dropped(name=name)
            self.assertTrue(behind == ladder_of(*[order for order in ALL if order.name != name]))
            self.assertTrue(name not in behind)
        for wrong in STRANGERS:
            for ask in (ladder.dropped, ladder.order, ladder.left, ladder.in_slice, ladder.place):
                with self.assertRaises(UnknownOrder) as caught:
                    ask(wrong)
                self.assertIs(caught.exception.name, wrong)

    def test_what_was_dropped_is_unknown(self):
        for behind in [ladder_of(OA).dropped("oa"), ladder_of(OA).taken("sell", 5)]:
            self.raises(UnknownOrder, {"name": "oa"}, behind.left, "oa")
            self.assertTrue(behind == Ladder("corn"))
            self.assertEqual(behind.placed(OA).left("oa"), 5)

    def test_bad_sides(self):
        ladder = ladder_of(*ALL)
        for wrong in ["Buy", "both", "sell ", "oa"] + ODD:
            for ask in (ladder.names, ladder.best, ladder.shown, ladder.units):
                self.raises_given(BadSide, wrong, ask, wrong)
            self.raises_given(BadSide, wrong, ladder.worth, wrong, "units")

    def test_worth(self):
        ladder = ladder_of(*ALL)
        self.same([ladder.worth("sell", units) for units in [0, 1, 8, 9, 15, 16, 10 ** 40]],
                  [0, 20, 160, 182, 160 + 7 * 22, None, None])
        self.same([ladder.worth(side="buy", units=units) for units in [4, 5, 6, 7]], [72, 87, 102, None])
        for wrong in [-1, None] + NO_INTEGERS:
            self.raises_given(BadAmount, wrong, ladder.worth, "sell", wrong)

    def test_shown(self):
        ladder = ladder_of(*ALL)
        self.same([ladder.shown("sell"), ladder.shown(side="buy")], [[(20, 5, 2), (22, 3, 1)], [(18, 1, 1), (15, 2, 1)]])
        self.same(ladder.taken("sell", 4).shown("sell"), [(20, 3, 2), (22, 3, 1)])

    def test_place(self):
        ladder = ladder_of(*ALL)
        self.same([ladder.place(name) for name in ["oa", "ob", "oc"]], [(0, 0, 8), (2, 2, 5), (5, 8, 15)])
        self.same([ladder.place("od"), ladder.place(name="oe")], [(0, 0, 4), (1, 4, 6)])

    def test_orders_at_the_side_of_the_model(self):
        pick = random.Random(3)
        for _ in range(150):
            ladder, stand = random_ladder(pick, 20)
            self.assertEqual(told_by(ladder), seen(stand))
            self.assertEqual(len(ladder), len(stand.orders))
            for name in stand.orders:
                self.assertTrue(ladder.order(name) == stand.orders[name])
            for side in ["buy", "sell"]:
                prices = [price for name, price in stand.units(side)]
                self.assertEqual([ladder.worth(side, units) for units in range(len(prices) + 2)],
                                 [sum(prices[:units]) for units in range(len(prices) + 1)] + [None])

    def test_ladders_never_change(self):
        ladder = ladder_of(*ALL)
        told = told_by(ladder)
        ladder.placed(Order("ox", "ann", "sell", "corn", 20, 5))
        ladder.dropped("oa")
        ladder.lessened("oa", 4)
        ladder.taken("sell", 9)
        ladder.taken("buy", 6)
        for answer in (ladder.names("sell"), ladder.shown("sell"), ladder.units("sell")):
            answer.clear()
        for call, wrong in [(ladder.placed, (OA,)), (ladder.dropped, ("ox",)), (ladder.lessened, ("oa", 5)),
                            (ladder.taken, ("sell", 16))]:
            with self.assertRaises(ValueError):
                call(*wrong)
        self.assertEqual(told_by(ladder), told)
        self.assertTrue(ladder == ladder_of(*ALL))


if __name__ == "__main__":
    unittest.main()
