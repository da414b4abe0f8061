"""The run: rows and steps of each day, and the things that come of them [94], [95]."""

import copy
import random
import unittest

from evenmarket.facts import BadFacts, Rules
from evenmarket.journals import Journal
from evenmarket.run import Run, run
from tests.checks import Case, ODD
from tests.markets import Words, random_market

WOOD = Rules(["wood"], [], [{}])
OIL = Rules(["wood"], ["oil"], [{}, {"oil": 5}, {"oil": -5}])
TWO = Rules([], ["oil", "tin"], [{}, {"oil": -4, "tin": 2}, {"oil": 3}])
CLOSES = [("close", day) for day in range(13)]
WEALTH = [("pay", 0, "ann", "money", 100), ("pay", 0, "bob", "money", 100)]


def texts(rules, facts, day=None):
    """The texts of the rows behind their day."""
    return [str(row).split(" ", 1)[1] for row in run(rules, facts).journal().rows(day)]


def things(rules, facts, *words):
    """The things that begin with these words."""
    return {key: value for key, value in run(rules, facts).things().items() if key[:len(words)] == words}


class RowsOfFacts(Case):

    def test_each_kind(self):
        facts = [("pay", 2, "ann", "wood", 5), ("pay", 0, "bob", "money", -7), ("lend", 1, 4, "ann", "bob", 3), ("fund", 0, "ann", 2),
                 ("way", 0, "ann", "last"), ("queue", 0, "ann", "wood", []), ("price", 0, "oil", 9), ("trade", 0, "ann", "bob", "oil", 5, 1),
                 ("trade", 0, "ann", "bob", "wood", 5, 1), ("slip", 0, [("pay", "cid", "wood", 1), ("price", "oil", 4)])]
        told = run(rules=OIL, facts=facts)
        self.assertIsInstance(told, Run)
        self.assertIsInstance(told.journal(), Journal)
        self.same([str(row) for row in told.journal().rows()], [
            "0 pay 1, bob money free -7, outside money free 7", "0 fund 3, ann money free -2, ann money fund 2",
            "1 lend 2, ann money free -3, bob money free 3", "2 pay 0, ann wood free 5, outside wood free -5"])
        self.same([told.days(), told.things()], [0, {}])
        self.same(texts(OIL, facts + [("fill", 9, 0)], 0)[2:], ["pay 9, cid wood free 1, outside wood free -1"])
        self.same(len(run(OIL, facts + [("fill", 9, 1)]).journal()), 4)

    def test_days_without_facts(self):
        told = run(WOOD, CLOSES)
        self.same([told.days(), told.things(), len(told.journal())], [13, {}, 0])
        self.same(run(WOOD, []).things(), {})
        told = run(OIL, CLOSES[:3])
        self.same([told.days(), told.things(), len(told.journal())], [3, {("price", "oil", day): 50 for day in range(3)}, 0])
        self.same(things(OIL, [("pay", 0, "ann", "wood", 1)] + CLOSES, "balance", ("ann", "wood", "free")),
                  {("balance", ("ann", "wood", "free"), day): 1 for day in range(13)})

    def test_open_days_have_rows_and_no_steps(self):
        facts = [("pay", 1, "ann", "wood", 5), ("close", 0), ("trade", 1, "bob", "ann", "wood", 9, 1), ("lend", 1, 1, "ann", "bob", 4)]
        told = run(WOOD, facts)
        self.same([told.days(), told.things(), len(told.journal())], [1, {}, 2])
        self.same(sorted(key[0] for key in run(WOOD, facts + [("close", 1)]).things()),
                  ["balance", "balance", "lots", "paid", "queue", "queue", "standing"])

    def test_wrong_facts(self):
        for wrong in [wrong for wrong in ODD if wrong not in ([], ())] + [[("close", 1)], CLOSES + [("close", 13)]]:
            self.raises_given(BadFacts, wrong, run, WOOD, wrong)


class Marking(Case):

    def test_prices(self):
        facts = [("price", 0, "oil", 60), ("slip", 0, [("price", "oil", 70)]), ("price", 0, "oil", 65), ("slip", 0, [("price", "oil", 75)]),
                 ("price", 2, "oil", 40), ("close", 0), ("close", 1), ("close", 2)]
        told = {(): 65, (1,): 65, (3,): 75, (1, 3): 75}
        for fills, price in told.items():
            found = things(OIL, facts + [("fill", number, 0) for number in fills], "price")
            self.same(found, {("price", "oil", 0): price, ("price", "oil", 1): price, ("price", "oil", 2): 40})
        self.same(things(TWO, [("price", 0, "tin", 9), ("close", 0)], "price"), {("price", "oil", 0): 50, ("price", "tin", 0): 9})

    def test_trades_and_positions(self):
        facts = WEALTH + [("trade", 0, "ann", "bob", "oil", 48, 2), ("trade", 0, "bob", "cid", "oil", 51, 1), ("price", 0, "oil", 54),
                          ("close", 0), ("price", 1, "oil", 57), ("trade", 1, "bob", "ann", "oil", 58, 2), ("close", 1)]
        self.same(texts(OIL, facts, 0)[2:], [
            "mark 0 oil, ann money free 12, bob money free -9, cid money free -3", "cover 0 ann, ann money cover 10, ann money free -10",
            "cover 0 bob, bob money cover 5, bob money free -5", "fall 0 cid, cid money free 3, house money free -3"])
        # cid was closed out, so the house has the contract that is sold, and gets what it brings.
        self.same(texts(OIL, facts, 1), [
            "mark 1 oil, ann money free 8, bob money free -5, house money free -3", "cover 1 ann, ann money cover -10, ann money free 10"])
        self.same(things(OIL, facts, "position"), {("position", "ann", 0): (("oil", 2),), ("position", "bob", 0): (("oil", -1),),
                                                   ("position", "bob", 1): (("oil", 1),)})

    def test_several_contracts(self):
        facts = [("pay", 0, "ann", "money", 90), ("pay", 0, "bob", "money", 90), ("trade", 0, "ann", "bob", "tin", 40, 3),
                 ("trade", 0, "bob", "ann", "oil", 55, 2), ("price", 0, "tin", 45), ("close", 0)]
        self.same(texts(TWO, facts, 0)[2:], [
            "mark 0 oil, ann money free 10, bob money free -10", "mark 0 tin, ann money free 15, bob money free -15",
            "cover 0 ann, ann money cover 6, ann money free -6", "cover 0 bob, bob money cover 14, bob money free -14"])
        self.same(things(TWO, facts, "position"), {("position", "ann", 0): (("oil", -2), ("tin", 3)),
                                                   ("position", "bob", 0): (("oil", 2), ("tin", -3))})

    def test_an_amended_and_a_bust_trade(self):
        facts = WEALTH + [("trade", 0, "ann", "bob", "oil", 50, 2), ("slip", 0, [("amend", 2, 45), ("bust", 2)]), ("close", 0)]
        account = ("ann", "money", "free")
        self.same([run(OIL, facts + fills).things()[("balance", account, 0)] for fills in [[], [("fill", 3, 0)], [("fill", 3, 1)]]],
                  [90, 100, 100])
        self.same(len(things(OIL, facts + [("fill", 3, 1)], "position")), 0)


class Covering(Case):

    def test_cover_comes_and_goes(self):
        facts = [("pay", 0, "ann", "money", 30), ("pay", 0, "bob", "money", 30), ("trade", 0, "ann", "bob", "oil", 48, 2), ("close", 0)]
        found = run(OIL, facts).things()
        self.same([found[("balance", (name, "money", place), 0)] for name in ["ann", "bob"] for place in ["free", "cover"]],
                  [24, 10, 16, 10])
        facts += [("trade", 1, "bob", "ann", "oil", 50, 2), ("close", 1)]
        self.same(texts(OIL, facts, 1), ["cover 1 ann, ann money cover -10, ann money free 10",
                                         "cover 1 bob, bob money cover -10, bob money free 10"])
        self.same(things(OIL, facts, "called"), {})

    def test_called_and_closed(self):
        # ann can cover one of three contracts, bob none of three.
        facts = [("pay", 0, "ann", "money", 9), ("pay", 0, "bob", "money", 4), ("trade", 0, "ann", "bob", "oil", 50, 3), ("close", 0)]
        self.same(things(OIL, facts, "closing"), {("closing", "ann", 0): (("oil", 2),), ("closing", "bob", 0): (("oil", 3),)})
        self.same(things(OIL, facts, "called"), {("called", "ann", 0): 1, ("called", "bob", 0): 1})
        self.same(things(OIL, facts, "position"), {("position", "ann", 0): (("oil", 1),)})
        self.same(texts(OIL, facts, 0)[2:], ["cover 0 ann, ann money cover 5, ann money free -5"])
        # Who has a position that needs nothing is not called, even without money.
        free = Rules([], ["oil"], [{}])
        self.same(things(free, [("trade", 0, "ann", "bob", "oil", 50, 3), ("close", 0)], "called"), {})
        # Cover that is not needed any more comes back, and then something may lack although nothing is closed.
        facts = [("pay", 0, "ann", "money", 10), ("pay", 0, "bob", "money", 90), ("trade", 0, "ann", "bob", "oil", 50, 2), ("close", 0),
                 ("pay", 1, "ann", "money", -20), ("trade", 1, "bob", "ann", "oil", 50, 2), ("close", 1)]
        self.same(texts(OIL, facts, 1), ["pay 4, ann money free -20, outside money free 20", "cover 1 ann, ann money cover -10, ann money free 10",
                                         "fall 1 ann, ann money free 10, house money free -10",
                                         "cover 1 bob, bob money cover -10, bob money free 10"])
        self.same([things(OIL, facts, "called"), things(OIL, facts, "closing")], [{("called", "ann", 1): 1}, {}])

    def test_a_single_unit_that_lacks(self):
        free = Rules([], ["oil"], [{}])
        facts = [("trade", 0, "ann", "bob", "oil", 50, 1), ("price", 0, "oil", 49), ("close", 0)]
        self.same(texts(free, facts), ["mark 0 oil, ann money free -1, bob money free 1", "fall 0 ann, ann money free 1, house money free -1"])
        # Cover comes back, and just one unit lacks, with nothing to close.
        facts = [("pay", 0, "ann", "money", 5), ("pay", 0, "bob", "money", 5), ("trade", 0, "ann", "bob", "oil", 50, 1), ("close", 0),
                 ("pay", 1, "ann", "money", -6), ("trade", 1, "bob", "ann", "oil", 50, 1), ("close", 1)]
        self.same([things(OIL, facts, "called"), things(OIL, facts, "closing")], [{("called", "ann", 1): 1}, {}])

    def test_who_bears_what_lacks(self):
        facts = [("pay", 0, "ann", "money", 5), ("pay", 0, "bob", "money", 90), ("pay", 0, "cid", "money", 90), ("pay", 0, "dee", "money", 90),
                 ("fund", 0, "ann", 4), ("fund", 0, "bob", 2), ("fund", 0, "cid", 9), ("trade", 0, "ann", "dee", "oil", 50, 1)]
        # ann lacks 9 less the 1 that is free: 4 are in the own fund, the house has nothing, then bob and cid in turns.
        drop = facts + [("price", 0, "oil", 40), ("close", 0)]
        self.same(texts(OIL, drop, 0)[7:], [
            "mark 0 oil, ann money free -10, dee money free 10",
            "fall 0 ann, ann money free 9, ann money fund -4, bob money fund -2, cid money fund -3",
            "cover 0 dee, dee money cover 5, dee money free -5"])
        self.same(things(OIL, drop, "closing"), {("closing", "ann", 0): (("oil", 1),)})
        # The house pays ahead of the others, as far as its money is above 0, and what is beyond all funds.
        deep = facts + [("price", 0, "oil", 15), ("close", 0)]
        self.same(texts(OIL, deep, 0)[8], "fall 0 ann, ann money free 34, ann money fund -4, bob money fund -2, cid money fund -9, house money free -19")
        rich = facts[:7] + [("trade", 0, "cid", "dee", "oil", 50, 9), ("close", 0), ("pay", 1, "cid", "money", -10 ** 3), ("close", 1)]
        found = run(OIL, rich)
        self.same(texts(OIL, rich, 1), [
            "pay 9, cid money free -1000, outside money free 1000", "cover 1 cid, cid money cover -45, cid money free 45",
            "fall 1 cid, ann money fund -4, bob money fund -2, cid money free 919, cid money fund -9, house money free -904"])
        self.same(found.things()[("balance", ("house", "money", "free"), 1)], -904)

    def test_the_house_pays_first(self):
        # cid is closed out of what was sold; the price falls, so the house has 60 then.
        facts = [("pay", 0, "ann", "money", 200), ("fund", 0, "bob", 3), ("pay", 0, "bob", "money", 5), ("trade", 0, "ann", "cid", "oil", 50, 6),
                 ("close", 0), ("price", 1, "oil", 40), ("close", 1), ("trade", 2, "dee", "ann", "oil", 41, 2), ("price", 2, "oil", 10),
                 ("close", 2)]
        found = run(OIL, facts).things()
        self.same(found[("closing", "cid", 0)], (("oil", 6),))
        self.same(found[("balance", ("house", "money", "free"), 1)], 60)
        self.same(texts(OIL, facts, 2)[0], "mark 2 oil, ann money free -118, dee money free -62, house money free 180")
        self.same([text for text in texts(OIL, facts, 2) if "fall" in text], ["fall 2 dee, dee money free 62, house money free -62"])

    def test_members_without_positions(self):
        # Nobody is covered who has neither a position nor cover, whatever lacks.
        facts = [("pay", 0, "ann", "money", -50), ("fund", 0, "ann", 5), ("close", 0)]
        self.same(texts(OIL, facts), ["pay 0, ann money free -50, outside money free 50", "fund 1, ann money free -5, ann money fund 5"])
        self.same(things(OIL, facts, "called"), {})


class TheRound(Case):

    def test_a_trade_settles_at_the_next_close(self):
        lines = [("pay", 0, "ann", "wood", 5), ("pay", 0, "bob", "money", 100), ("trade", 0, "bob", "ann", "wood", 20, 3), ("close", 0), ("close", 1)]
        found = run(OIL, lines).things()
        self.same([found[("standing", 2, 0)], found[("settled", 2, 1)], found[("balance", ("ann", "money", "free"), 1)],
                   found[("lots", "bob", "wood", 1)]], [60, 60, 60, ((1, 3, 60, 0),)])
        self.same(texts(OIL, lines, 1), ["settle 1 2, ann money free 60, ann wood free -3, bob money free -60, bob wood free 3"])
        self.same([key for key in found if key[0] in ("standing", "settled", "queue")],
                  [("queue", "ann", "wood", 0), ("queue", "bob", "money", 0), ("settled", 2, 1), ("standing", 2, 0)])

    def test_queues(self):
        facts = [("pay", 0, "ann", "wood", 2), ("pay", 0, "bob", "money", 90)]
        facts += [("trade", 0, "bob", "ann", "wood", 10, amount) for amount in [3, 2, 1]] + [("close", 0)]
        self.same(things(WOOD, facts, "queue"), {("queue", "ann", "wood", 0): (2, 3, 4), ("queue", "bob", "money", 0): (2, 3, 4)})
        self.same(things(WOOD, facts + [("close", 1)], "settled"), {})
        # Both queues must have it in front.
        one = [("queue", 1, "ann", "wood", [3])]
        self.same(things(WOOD, facts + one + [("close", 1)], "settled"), {})
        other = [("queue", 1, "bob", "money", [3])]
        behind = facts + one + other + [("close", 1)]
        self.same(things(WOOD, behind, "settled"), {("settled", 3, 1): 20})
        self.same(things(WOOD, behind, "queue", "ann", "wood"), {("queue", "ann", "wood", 0): (2, 3, 4), ("queue", "ann", "wood", 1): (2, 4)})
        # In turn, and only numbers that stand there; those of the list in its order.
        turns = [("queue", 1, "ann", "wood", [99, 4, 0, 3]), ("queue", 1, "ann", "wood", [2]), ("queue", 1, "bob", "money", [4, 3]),
                 ("queue", 1, "bob", "wood", [4]), ("queue", 1, "cid", "money", [2]), ("queue", 2, "ann", "wood", [3])]
        self.same(things(WOOD, facts + turns + [("close", 1)], "queue", "ann")[("queue", "ann", "wood", 1)], (2, 4, 3))
        self.same(things(WOOD, facts + turns + [("close", 1)], "queue", "bob")[("queue", "bob", "money", 1)], (4, 3, 2))
        # What is told at the day of the trade comes too early for it.
        early = facts[:-1] + [("queue", 0, "ann", "wood", [3]), ("queue", 0, "bob", "money", [3])] + facts[-1:]
        self.same(things(WOOD, early, "queue", "ann"), {("queue", "ann", "wood", 0): (2, 3, 4)})

    def test_new_dues_stand_behind_those_that_were_brought_forward(self):
        facts = [("trade", 0, "bob", "ann", "wood", 10, 1), ("trade", 0, "bob", "ann", "wood", 11, 1), ("close", 0),
                 ("trade", 1, "bob", "ann", "wood", 12, 1), ("queue", 1, "ann", "wood", [1]), ("close", 1)]
        self.same(things(WOOD, facts, "queue", "ann")[("queue", "ann", "wood", 1)], (1, 0, 3))
        self.same(things(WOOD, facts, "standing"), {
            ("standing", 0, 0): 10, ("standing", 0, 1): 10, ("standing", 1, 0): 11, ("standing", 1, 1): 11, ("standing", 3, 1): 12})

    def test_rings_and_what_is_free(self):
        facts = [("trade", 0, "bob", "ann", "wood", 10, 2), ("trade", 0, "ann", "bob", "wood", 10, 2), ("close", 0), ("close", 1)]
        self.same(things(WOOD, facts, "settled"), {("settled", 0, 1): 20, ("settled", 1, 1): 20})
        # Money in a fund, or as cover, does not settle dues; what the marking brings does.
        facts = [("pay", 0, "bob", "money", 20), ("pay", 0, "ann", "wood", 2), ("fund", 0, "bob", 1), ("trade", 0, "bob", "ann", "wood", 10, 2),
                 ("close", 0), ("close", 1), ("pay", 2, "bob", "money", 1), ("close", 2)]
        self.same(things(WOOD, facts, "settled"), {("settled", 3, 2): 20})

    def test_more_than_twelve_dues(self):
        facts = [("pay", 0, "ann", "wood", 99), ("pay", 0, "bob", "money", 999)]
        facts += [("trade", 0, "bob", "ann", "wood", 1, 1)] * 15 + CLOSES[:2]
        self.same(len(things(WOOD, facts, "settled")), 15)
        self.same(len(things(WOOD, facts, "standing")), 15)

    def test_bust_and_amended(self):
        facts = [("trade", 0, "bob", "ann", "wood", 10, 2), ("slip", 0, [("bust", 0), ("amend", 0, 7)]), ("close", 0)]
        self.same([things(WOOD, facts + fills, "standing") for fills in [[], [("fill", 1, 0)], [("fill", 1, 1)]]],
                  [{("standing", 0, 0): 20}, {}, {("standing", 0, 0): 14}])


class Paying(Case):

    def test_loans(self):
        facts = [("pay", 0, "ann", "money", 50), ("lend", 0, 1, "ann", "bob", 30), ("pay", 0, "bob", "money", -20), ("lend", 0, 0, "ann", "bob", 10),
                 ("close", 0), ("close", 1), ("pay", 2, "bob", "money", 13), ("close", 2), ("pay", 3, "bob", "money", 50), ("close", 3), ("close", 4)]
        # On day 0 bob has 20, and 10 are due; then 10 of 30.
        self.same(things(WOOD, facts, "paid"), {("paid", "ann", "bob", 0): 10, ("paid", "ann", "bob", 1): 10, ("paid", "ann", "bob", 2): 13,
                                                ("paid", "ann", "bob", 3): 7})
        self.same(things(WOOD, facts, "owed"), {("owed", 1, 0): 30, ("owed", 1, 1): 20, ("owed", 1, 2): 7})
        self.same(texts(WOOD, facts, 3), ["pay 8, bob money free 50, outside money free -50", "debt 3 ann bob, ann money free 7, bob money free -7"])

    def test_lesser_numbers_first(self):
        facts = [("lend", 0, 1, "ann", "bob", 30), ("lend", 0, 0, "ann", "bob", 10), ("lend", 0, 1, "ann", "bob", 5), ("pay", 0, "bob", "money", -41),
                 ("close", 0), ("pay", 1, "bob", "money", 28), ("close", 1)]
        # The loan 1 is due first; then 0 comes ahead of 1 and of 2.
        found = run(WOOD, facts).things()
        self.same([found.get(("owed", number, day)) for day in [0, 1] for number in [0, 1, 2]], [30, 6, 5, 2, 6, 5])

    def test_several_debtors_and_lenders(self):
        facts = [("lend", 0, 0, "cid", "bob", 6), ("lend", 0, 0, "ann", "bob", 3), ("lend", 0, 0, "bob", "ann", 4), ("pay", 0, "bob", "money", -11),
                 ("close", 0)]
        # bob has 9 - 4 - 11 = -6, ann 1: ann pays 1 of 4, which bob hands on as far as parts can be.
        self.same(texts(WOOD, facts, 0)[4:], ["debt 0 bob ann, ann money free -1, bob money free 1"])
        facts[3] = ("pay", 0, "bob", "money", 1)
        self.same(texts(WOOD, facts, 0)[4:], ["debt 0 bob ann, ann money free -4, bob money free 4", "debt 0 ann bob, ann money free 3, bob money free -3",
                                              "debt 0 cid bob, bob money free -6, cid money free 6"])

    def test_what_the_round_brings_pays(self):
        facts = [("pay", 0, "ann", "wood", 2), ("pay", 0, "bob", "money", 20), ("pay", 0, "cid", "money", 15), ("lend", 0, 1, "cid", "ann", 15),
                 ("pay", 0, "ann", "money", -15), ("trade", 0, "bob", "ann", "wood", 10, 2), ("close", 0), ("close", 1)]
        self.same([text.split(",")[0] for text in texts(WOOD, facts, 1)], ["settle 1 5", "debt 1 cid ann"])
        self.same(things(WOOD, facts, "paid"), {("paid", "cid", "ann", 1): 15})


class LotsOfGoods(Case):

    def test_payments_and_ways(self):
        facts = [("pay", 0, "ann", "wood", 3), ("close", 0), ("pay", 1, "ann", "wood", 2), ("close", 1), ("pay", 2, "ann", "wood", -1), ("close", 2)]
        self.same(things(WOOD, facts, "lots")[("lots", "ann", "wood", 2)], ((0, 3, 0, 1), (1, 2, 0, 0)))
        last = [("way", 2, "ann", "first"), ("way", 1, "ann", "last"), ("way", 0, "ann", "dearest"), ("way", 3, "ann", "first"), ("way", 0, "bob", "first")]
        # The way of day 2 counts, though that of day 1 was told later.
        self.same(things(WOOD, last + facts, "lots")[("lots", "ann", "wood", 2)], ((0, 3, 0, 1), (1, 2, 0, 0)))
        self.same(things(WOOD, last[1:] + facts, "lots")[("lots", "ann", "wood", 2)], ((0, 3, 0, 0), (1, 2, 0, 1)))
        # On one day the last one counts, also told behind the payment.
        late = facts[:5] + [("way", 2, "ann", "first"), ("way", 2, "ann", "last")] + facts[5:]
        self.same(things(WOOD, late, "lots")[("lots", "ann", "wood", 2)], ((0, 3, 0, 0), (1, 2, 0, 1)))

    def test_costs(self):
        facts = [("pay", 0, "ann", "wood", 3), ("pay", 0, "bob", "money", 99), ("trade", 0, "bob", "ann", "wood", 10, 2),
                 ("trade", 0, "bob", "ann", "wood", 12, 1), ("close", 0), ("pay", 1, "bob", "wood", 4), ("close", 1), ("way", 2, "bob", "dearest"),
                 ("pay", 2, "bob", "wood", -2), ("close", 2)]
        found = things(WOOD, facts, "lots")
        # The payment of the day comes first, then the dues by their numbers.
        self.same(found[("lots", "bob", "wood", 1)], ((1, 4, 0, 0), (1, 2, 20, 0), (1, 1, 12, 0)))
        self.same(found[("lots", "bob", "wood", 2)], ((1, 4, 0, 0), (1, 2, 20, 1), (1, 1, 12, 1)))
        self.same(found[("lots", "ann", "wood", 1)], ((0, 3, 0, 3),))

    def test_no_more_than_is_there(self):
        facts = [("pay", 0, "ann", "wood", -5), ("pay", 0, "ann", "wood", 2), ("pay", 0, "ann", "wood", -5), ("pay", 0, "bob", "wood", -1), ("close", 0),
                 ("pay", 1, "ann", "wood", 1), ("close", 1)]
        found = things(WOOD, facts, "lots")
        self.same(found, {("lots", "ann", "wood", 0): ((0, 2, 0, 2),), ("lots", "ann", "wood", 1): ((0, 2, 0, 2), (1, 1, 0, 0))})
        self.same(run(WOOD, facts).things()[("balance", ("ann", "wood", "free"), 1)], -7)

    def test_money_has_no_lots(self):
        self.same(things(WOOD, WEALTH + [("close", 0)], "lots"), {})


class Things(Case):

    def test_keys_ascend(self):
        for seed in range(40):
            rules, facts = random_market(seed)
            found = run(rules, facts).things()
            self.same(list(found), sorted(found))

    def test_each_form_is_there_or_not(self):
        facts = WEALTH + [("pay", 0, "ann", "wood", 1), ("trade", 0, "ann", "bob", "oil", 50, 1), ("trade", 0, "bob", "ann", "wood", 5, 1),
                          ("lend", 0, 0, "ann", "bob", 5), ("lend", 0, 2, "ann", "bob", 5), ("trade", 0, "bob", "cid", "oil", 50, 1), ("close", 0), ("close", 1)]
        found = run(OIL, facts).things()
        there = [("price", "oil", 0), ("position", "ann", 0), ("called", "cid", 0), ("closing", "cid", 0), ("balance", ("ann", "money", "cover"), 0),
                 ("standing", 4, 0), ("settled", 4, 1), ("queue", "ann", "wood", 0), ("owed", 6, 1), ("paid", "ann", "bob", 0),
                 ("lots", "bob", "wood", 1)]
        missing = [("price", "oil", 2), ("position", "cid", 0), ("called", "ann", 0), ("closing", "ann", 0), ("balance", ("cid", "money", "free"), 0),
                   ("standing", 4, 1), ("settled", 4, 0), ("queue", "ann", "wood", 1), ("owed", 5, 0), ("paid", "ann", "bob", 1), ("lots", "bob", "wood", 0),
                   ("balance", ("bob", "money", "cover"), 0), ("position", "bob", 0), ("standing", 3, 0)]
        for key in there:
            self.assertIn(key, found)
        for key in missing:
            self.assertNotIn(key, found)
        self.same(sorted({key[0] for key in found}), sorted(key[0] for key in there))

    def test_against_the_words(self):
        met = set()
        for seed in range(250):
            rules, facts = random_market(seed, most=60)
            before = copy.deepcopy(facts)
            told, words = run(rules, facts), Words(rules, facts)
            self.same(told.days(), len([fact for fact in facts if fact[0] == "close"]))
            self.assertEqual([(row.day, row.cause, row.postings()) for row in told.journal().rows()], words.rows)
            self.assertEqual(told.things(), words.things)
            met.update(row.cause[0] for row in told.journal().rows())
            met.update(key[0] + "_" for key in told.things())
            self.same(facts, before)
        self.assertEqual(met, {"pay", "lend", "fund", "mark", "cover", "fall", "settle", "debt", "price_", "position_", "called_", "closing_",
                               "balance_", "standing_", "settled_", "queue_", "owed_", "paid_", "lots_"})

    def test_balances_are_those_of_the_journal(self):
        for seed in range(80):
            rules, facts = random_market(seed, most=50)
            told = run(rules, facts)
            found, journal = told.things(), told.journal()
            for day in range(told.days()):
                self.same(journal.cut(day), {key[1]: value for key, value in found.items() if key[0] == "balance" and key[2] == day})
            for unit in ["money"] + rules.goods():
                for day in range(13):
                    self.same(journal.total(unit, day=day), 0)
                # All of a unit together only comes in, or goes, by payments.
                brought = sum(row.posting(("outside", unit, "free")) for row in journal.rows() if row.cause[0] == "pay")
                self.same(journal.balance(("outside", unit, "free")), brought)

    def test_whatever_is_told_later(self):
        # No fact but a fill changes a thing of a closed day.
        for seed in range(60):
            rules, facts = random_market(seed, most=40)
            fills = [fact for fact in facts if fact[0] == "fill"]
            rest = [fact for fact in facts if fact[0] != "fill"]
            found = {}
            for at in range(len(rest) + 1):
                before, found = found, run(rules, rest[:at]).things()
                self.assertEqual({key: found.get(key) for key in before}, before)
            self.assertEqual(run(rules, rest + fills[::-1]).things(), run(rules, facts).things())

    def test_what_is_told_may_be_changed(self):
        told = run(OIL, WEALTH + CLOSES[:1])
        told.things().clear()
        self.same(len(told.things()), 4)
        told.journal().rows().clear()
        self.same(len(told.journal()), 2)

    def test_facts_in_tuples(self):
        for seed in range(20):
            rules, facts = random_market(seed)
            told = tuple(tuple(tuple(item) if isinstance(item, list) else item for item in fact) for fact in facts)
            self.assertEqual(run(rules, told).things(), run(rules, facts).things())

    def test_twins_of_books(self):
        # A run does not hang on what was run before.
        rules, facts = random_market(7, most=50)
        first = run(rules, facts)
        random.Random(1).shuffle(list(facts))
        self.assertEqual([first.things(), first.journal()], [run(rules, facts).things(), run(rules, facts).journal()])


if __name__ == "__main__":
    unittest.main()
