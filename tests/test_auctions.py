"""Auctions that go on [40]."""

import random
import unittest

from evenmarket.auctions import Auction, BadWidth, Cleared, UnknownBid
from evenmarket.clearing import BadBid, BidTaken, BothSides, TooManyBids, clearing, left, pairs
from evenmarket.errors import BadAmount, BadPrice, BadUnit
from tests.checks import Case, ODD, RESERVED, WRONG_NAMES
from tests.test_clearing import NO_PRICES

A = ("a", "ann", "buy", 30, 4)
C = ("c", "cy", "sell", 20, 3)
D = ("d", "dan", "sell", 20, 2)
NO_INTEGERS = [True, False, None, "1", (), [], {}, [1], (1,), 1.0]


def auction_of(*bids, told=50, width=10):
    auction = Auction("corn", told, width)
    for bid in bids:
        auction.tell(*bid)
    return auction


def state(auction):
    return [auction.orders(), auction.shown(), auction.phase()]


class Making(Case):

    def test_errors_in_order(self):
        for wrong in RESERVED + WRONG_NAMES + ODD:
            self.raises_given(BadUnit, wrong, Auction, wrong, 0, -1)
        for wrong in NO_PRICES + [None]:
            self.raises_given(BadPrice, wrong, Auction, "corn", wrong, -1)
        for wrong in [-1, 100, 10 ** 40] + NO_INTEGERS:
            self.raises_given(BadWidth, wrong, Auction, "corn", 50, wrong)

    def test_ends(self):
        for told, width in [(1, 0), (99, 99)]:
            self.same(state(Auction(unit="corn", told=told, width=width)), [[], (None, 0, 0), "open"])


class Telling(Case):

    def test_told(self):
        auction = Auction("corn", 50, 10)
        self.assertIsNone(auction.tell(*A))
        self.assertIsNone(auction.tell(name="c", member="cy", side="sell", price=None, amount=3))
        self.same(auction.orders(), [A, ("c", "cy", "sell", None, 3)])

    def test_no_auction_orders(self):
        auction = auction_of(A)
        for at, parts in enumerate([ODD + WRONG_NAMES, ODD + WRONG_NAMES + RESERVED, ODD + ["Buy", "both"], NO_PRICES,
                                    [0, 13, -1] + NO_INTEGERS]):
            for part in parts:
                told = A[:at] + (part,) + A[at + 1:]
                with self.assertRaises(BadBid) as caught:
                    auction.tell(*told)
                self.assertEqual(caught.exception.given, told)
                self.assertIsInstance(caught.exception.given, tuple)
                self.assertIs(caught.exception.given[at], part)
        self.same(state(auction), [[A], (None, 0, 0), "open"])

    def test_names_that_ever_were(self):
        auction = auction_of(A, C)
        self.raises(BidTaken, {"given": "a"}, auction.tell, "a", "ann", "sell", 1, 1)
        auction.take_out("a")
        self.raises(BidTaken, {"given": "a"}, auction.tell, *A)
        self.raises(BidTaken, {"given": "a"}, auction.tell, "a", "cy", "buy", 1, 1)
        # What was refused was never an order of its name.
        with self.assertRaises(BothSides):
            auction.tell("e", "cy", "buy", 1, 1)
        auction.tell("e", "cy", "sell", 1, 1)
        self.same(auction.orders(), [C, ("e", "cy", "sell", 1, 1)])

    def test_both_sides(self):
        auction = auction_of(A, C)
        self.raises(BothSides, {"given": "ann"}, auction.tell, "e", "ann", "sell", 1, 1)
        self.raises(BothSides, {"given": "cy"}, auction.tell, "e", "cy", "buy", 1, 1)
        auction.tell("e", "ann", "buy", 5, 1)
        auction.take_out("a")
        self.raises(BothSides, {"given": "ann"}, auction.tell, "f", "ann", "sell", 1, 1)
        auction.take_out("e")
        self.assertIsNone(auction.tell("f", "ann", "sell", 1, 1))
        self.same(auction.orders(), [C, ("f", "ann", "sell", 1, 1)])

    def test_too_many(self):
        bids = [("o" + chr(97 + at), "ann", "buy", 5, 1) for at in range(12)]
        auction = auction_of(*bids)
        self.raises(TooManyBids, {"given": 13}, auction.tell, "x", "eve", "sell", 5, 1)
        self.raises(BothSides, {"given": "ann"}, auction.tell, "x", "ann", "sell", 5, 1)
        self.raises(BidTaken, {"given": "oa"}, auction.tell, "oa", "ann", "sell", 5, 1)
        auction.take_out("oc")
        auction.tell("x", "eve", "sell", 5, 1)
        self.same(len(auction.orders()), 12)
        self.raises(TooManyBids, {"given": 13}, auction.tell, "y", "eve", "sell", 5, 1)


class Lessening(Case):

    def test_lessened_at_its_place(self):
        auction = auction_of(A, C, D)
        self.assertIsNone(auction.lessen("c", 1))
        self.assertIsNone(auction.lessen(name="a", amount=3))
        self.same(auction.orders(), [A[:4] + (3,), C[:4] + (1,), D])

    def test_taken_out(self):
        auction = auction_of(A, C, D)
        self.assertIsNone(auction.take_out(name="c"))
        self.same(auction.orders(), [A, D])

    def test_unknown(self):
        auction = auction_of(A, C, D)
        auction.take_out("c")
        for wrong in ["c", "x", "ann", ("a",), ["a"], {"a": 1}, A] + ODD:
            self.raises_given(UnknownBid, wrong, auction.take_out, wrong)
            self.raises_given(UnknownBid, wrong, auction.lessen, wrong, None)
        self.same(auction.orders(), [A, D])

    def test_amounts(self):
        auction = auction_of(A, ("e", "eve", "buy", 5, 1))
        for wrong in [0, 4, 5, -1, 10 ** 40] + NO_INTEGERS:
            self.raises_given(BadAmount, wrong, auction.lessen, "a", wrong)
        self.raises(BadAmount, {"given": 1}, auction.lessen, "e", 1)
        self.same(auction.orders(), [A, ("e", "eve", "buy", 5, 1)])
        auction.lessen("a", 1)
        self.raises(BadAmount, {"given": 1}, auction.lessen, "a", 1)


class Clearing(Case):

    def test_at_once(self):
        for told, width in [(20, 0), (30, 10), (10, 10), (21, 1), (50, 99), (99, 79)]:
            auction = auction_of(A, C, D, told=told, width=width)
            self.same(auction.shown(), (20, 4, -1))
            self.same(auction.clear(), [("ann", "cy", "corn", 20, 3), ("ann", "dan", "corn", 20, 1)])
            self.same(state(auction), [[A, C, D], (20, 4, -1), "cleared"])

    def test_late(self):
        for told, width in [(21, 0), (31, 10), (9, 10), (99, 78)]:
            auction = auction_of(A, C, D, told=told, width=width)
            self.assertIsNone(auction.clear())
            self.same(state(auction), [[A, C, D], (20, 4, -1), "late"])
            self.same(auction.clear(), [("ann", "cy", "corn", 20, 3), ("ann", "dan", "corn", 20, 1)])
            self.same(auction.phase(), "cleared")

    def test_late_stays_late(self):
        auction = auction_of(A, C)
        self.assertIsNone(auction.clear())
        auction.tell("e", "eve", "sell", 20, 1)
        auction.lessen("c", 2)
        auction.take_out("e")
        self.same(auction.phase(), "late")
        self.same(auction.clear(), [("ann", "cy", "corn", 30, 2)])

    def test_without_a_clearing_price(self):
        for bids in [(), (A,), (A, ("c", "cy", "sell", 31, 3))]:
            auction = auction_of(*bids, width=99)
            self.assertIsNone(auction.clear())
            self.same(state(auction), [list(bids), (None, 0, 0), "late"])
            self.same(auction.clear(), [])
            self.same(state(auction), [list(bids), (None, 0, 0), "cleared"])

    def test_told_decides_between_prices(self):
        bids = [("a", "ann", "buy", 30, 3), ("c", "cy", "sell", 20, 3)]
        self.same([auction_of(*bids, told=told).shown() for told in [10, 24, 40]], [(20, 3, 0), (24, 3, 0), (30, 3, 0)])
        self.same(auction_of(*bids, told=24, width=0).clear(), [("ann", "cy", "corn", 24, 3)])

    def test_each_pair_is_a_trade(self):
        bids = [("a", "ann", "buy", 30, 2), ("b", "ann", "buy", 30, 2), ("c", "cy", "sell", 20, 4)]
        self.same(auction_of(*bids, width=99).clear(), [("ann", "cy", "corn", 30, 2), ("ann", "cy", "corn", 30, 2)])

    def test_cleared_comes_first(self):
        auction = auction_of(A, C, width=99)
        auction.clear()
        before = state(auction)
        for call, told in [(auction.tell, A), (auction.tell, (None,) * 5), (auction.lessen, ("x", None)),
                           (auction.lessen, ("a", 1)), (auction.take_out, ("x",)), (auction.take_out, ("a",)),
                           (auction.clear, ())]:
            self.raises(Cleared, {}, call, *told)
        self.same(state(auction), before)

    def test_answers_are_new(self):
        auction = auction_of(A, C, width=99)
        auction.orders().clear()
        twin = auction.twin()
        auction.clear().clear()
        self.same([auction.orders(), twin.clear()], [[A, C], [("ann", "cy", "corn", 30, 3)]])

    def test_beside_the_functions(self):
        pick = random.Random(17)
        for _ in range(60):
            auction = Auction("corn", pick.randrange(40, 61), pick.randrange(0, 8))
            twin = auction.twin()
            for number in range(12):
                member = pick.randrange(4)
                bid = ("o" + chr(97 + number), "m" + chr(97 + member), "buy" if member < 2 else "sell",
                       pick.choice([None, pick.randrange(45, 56)]), pick.randrange(1, 13))
                for one in (auction, twin):
                    one.tell(*bid)
            told = auction.orders()
            found = clearing(told, auction._told)
            if found is None:
                self.same(auction.shown(), (None, 0, 0))
                continue
            self.same(auction.shown(), (*found, left(told, found[0])))
            trades = auction.clear()
            self.assertEqual(trades is None, abs(found[0] - auction._told) > auction._width)
            if trades is None:
                trades = auction.clear()
            members = {bid[0]: bid[1] for bid in told}
            self.same(trades, [(members[buyer], members[seller], "corn", found[0], amount)
                               for buyer, seller, amount in pairs(told, found[0])])
            self.same([twin.phase(), twin.orders()], ["open", told])


class Twins(Case):

    def test_they_go_on_alone(self):
        auction = auction_of(A, C, D)
        auction.take_out("d")
        twin = auction.twin()
        self.same(state(twin), state(auction))
        twin.lessen("a", 1)
        twin.tell("e", "eve", "buy", 1, 1)
        self.assertIsNone(twin.clear())
        self.same(state(auction), [[A, C], (30, 3, 1), "open"])
        auction.take_out("c")
        auction.tell("e", "ed", "sell", 1, 1)
        self.same(twin.orders(), [A[:4] + (1,), C, ("e", "eve", "buy", 1, 1)])
        self.raises(BidTaken, {"given": "d"}, twin.tell, *D)
        self.raises(BidTaken, {"given": "d"}, auction.tell, *D)
        third = twin.twin()
        self.same(third.phase(), "late")
        third.clear()
        self.same([third.phase(), twin.phase(), auction.phase()], ["cleared", "late", "open"])
        self.raises(Cleared, {}, third.twin().clear)

    def test_the_same_width_and_unit(self):
        self.same(auction_of(A, C, told=24, width=5).twin().clear(), None)
        self.same(auction_of(A, C, told=24, width=6).twin().clear(), [("ann", "cy", "corn", 30, 3)])


if __name__ == "__main__":
    unittest.main()
