"""The forms of facts, telling them, and what is told at once [91] to [93]."""

import copy
import itertools
import random
import unittest

from evenmarket.errors import BadDay
from evenmarket.facts import BadFact, BadFacts, DayClosed, Filled, NoDeed, NoSlip, NoTrade, Rules
from evenmarket.telling import at_once, check, numbered
from evenmarket.told import Told
from tests.checks import Case, ODD, RESERVED, WRONG_NAMES
from tests.markets import holding_by_words, random_fact, random_market
from tests.test_positions import NO_INTEGERS

RULES = Rules(["wood", "iron"], ["oil"], [{}, {"oil": 5}])
BARE = Rules([], [], [{}])
WRONG_DAYS = NO_INTEGERS + [-1, 13, 10 ** 30]
NO_MEMBERS = WRONG_NAMES + RESERVED
NO_PRICES = NO_INTEGERS + [0, 100, -5, 10 ** 30]
NO_AMOUNTS = NO_INTEGERS + [0, -1, -10 ** 30]
NO_NUMBERS = NO_INTEGERS + [-1, -10 ** 30]
NO_UNITS = WRONG_NAMES + ["house", "outside", "gold", "oils"]
NO_WAYS = ["", "First", "firsts", None, 1, True, ("first",), ["first"], ("first", "last"), [(0, 1)], {}, "any"]
NO_LISTS = [None, True, 1, "1", "", {}, {1: 1}, 0]
NO_DEEDS = [
    (), [], None, "bust", ("bust",), ("bust", 0, 0), ["bust", 0], ("amend", 0), ("amend", 0, 5, 5), ["amend", 0, 5], ("fill", 0, 0),
    ("pay", "ann", "wood"), ("pay", 0, "ann", "wood", 1), ("pay", "ann", "wood", 1, 1), ["pay", "ann", "wood", 1], ("price", "oil"),
    ("price", 0, "oil", 5), ["price", "oil", 5], ("Bust", 0), (0, "bust"), (["bust"], 0), ("close",), ("trade", 0), (None, 0)]
NO_DEEDS += [("bust", wrong) for wrong in NO_NUMBERS] + [("amend", wrong, 5) for wrong in NO_NUMBERS]
NO_DEEDS += [("amend", 0, wrong) for wrong in NO_PRICES] + [("price", "oil", wrong) for wrong in NO_PRICES]
NO_DEEDS += [("price", wrong, 5) for wrong in NO_UNITS + ["wood", "money"]] + [("pay", wrong, "wood", 1) for wrong in NO_MEMBERS]
NO_DEEDS += [("pay", "ann", wrong, 1) for wrong in NO_UNITS + ["oil"]] + [("pay", "ann", "wood", wrong) for wrong in NO_INTEGERS + [0]]
# For each kind a right fact, and what may not stand at each place of it.
KINDS = [
    (("pay", 3, "ann", "wood", -5), [WRONG_DAYS, NO_MEMBERS, NO_UNITS + ["oil"], NO_INTEGERS + [0]]),
    (("trade", 3, "ann", "bob", "oil", 7, 2), [WRONG_DAYS, NO_MEMBERS + ["bob"], NO_MEMBERS + ["ann"], NO_UNITS + ["money"], NO_PRICES,
                                               NO_AMOUNTS]),
    (("price", 3, "oil", 7), [WRONG_DAYS, NO_UNITS + ["wood", "money"], NO_PRICES]),
    (("fund", 3, "ann", 7), [WRONG_DAYS, NO_MEMBERS, NO_AMOUNTS]),
    (("lend", 3, 5, "ann", "bob", 7), [WRONG_DAYS + [6], WRONG_DAYS + [2, 0], NO_MEMBERS + ["bob"], NO_MEMBERS + ["ann"], NO_AMOUNTS]),
    (("way", 3, "ann", "last"), [WRONG_DAYS, NO_MEMBERS, NO_WAYS]),
    (("queue", 3, "ann", "iron", [7, 0]), [WRONG_DAYS, NO_MEMBERS, NO_UNITS + ["oil"], NO_LISTS + [[1, 1], [0, 2, 0], (3, 3)]
                                           + [[wrong] for wrong in NO_NUMBERS] + [[1, wrong] for wrong in NO_NUMBERS]]),
    (("slip", 3, [("pay", "ann", "wood", 1), ("price", "oil", 4)]), [WRONG_DAYS, NO_LISTS + [[], (), [("price", "oil", 4)] * 4]
                                                                    + [[wrong] for wrong in NO_DEEDS]
                                                                    + [[("price", "oil", 4), wrong] for wrong in NO_DEEDS]]),
    (("fill", 3, 0), [NO_NUMBERS, [wrong for wrong in NO_NUMBERS if wrong is not None]]),
    (("close", 0), [WRONG_DAYS]),
]
BOUNDS = [
    ("pay", 0, "a", "money", 1), ("pay", 12, "abcdefgh", "iron", -10 ** 40), ("trade", 12, "ann", "bob", "wood", 1, 1),
    ("trade", 0, "bob", "ann", "iron", 99, 10 ** 40), ("price", 12, "oil", 1), ("price", 0, "oil", 99), ("fund", 12, "ann", 1),
    ("lend", 12, 12, "ann", "bob", 1), ("lend", 0, 12, "ann", "bob", 10 ** 40), ("lend", 0, 0, "bob", "ann", 7), ("way", 0, "ann", "first"),
    ("way", 12, "ann", "dearest"), ("queue", 0, "ann", "money", []), ("queue", 12, "ann", "wood", (10 ** 40, 0)),
    ("slip", 12, (("price", "oil", 99),)), ("slip", 0, [("pay", "ann", "money", -1)] * 3), ("close", 0)]
# Facts about which slips speak, at numbers 0 to 3.
TRADES = [("trade", 0, "ann", "bob", "wood", 7, 2), ("trade", 0, "ann", "bob", "oil", 7, 2), ("trade", 1, "cid", "bob", "wood", 7, 2),
          ("pay", 0, "ann", "wood", 5)]


class Forms(Case):

    def test_right_ones(self):
        for fact in [right for right, parts in KINDS if right[0] != "fill"] + BOUNDS:
            self.assertIsNone(check(rules=RULES, facts=[], fact=fact))
            self.same(numbered(RULES, [fact]), [(0, told_form(fact))])
        for deeds in [[("bust", 0)], [("amend", 1, 99), ("bust", 1)], [("bust", 0), ("bust", 0), ("amend", 0, 1)], (("bust", 1),)]:
            self.assertIsNone(check(RULES, TRADES, ("slip", 0, deeds)))
        self.assertIsNone(check(RULES, [("slip", 0, [("price", "oil", 1)])], ("fill", 0, None)))

    def test_one_part_otherwise(self):
        for right, parts in KINDS:
            for at, wrongs in enumerate(parts, start=1):
                for wrong in wrongs:
                    fact = (*right[:at], wrong, *right[at + 1:])
                    self.raises_given(BadFact, fact, check, RULES, [], fact)
                    self.raises_given(BadFact, fact, check, RULES, tuple(TRADES), fact)
            for fact in [list(right), right[:-1], right + (0,), right + ((),), right[1:], (right,), ("", *right[1:]), (None, *right[1:]),
                         (right[0].upper(), *right[1:]), ([right[0]], *right[1:]), ({}, *right[1:]), ("hidden", *right[1:]),
                         (right[0] + "s", *right[1:]), dict(enumerate(right))]:
                self.raises_given(BadFact, fact, check, RULES, [], fact)
        for wrong in ODD:
            self.raises_given(BadFact, wrong, check, RULES, [], wrong)

    def test_units_of_the_rules(self):
        for fact in [("pay", 0, "ann", "wood", 1), ("trade", 0, "ann", "bob", "oil", 1, 1), ("price", 0, "oil", 1),
                     ("queue", 0, "ann", "iron", []), ("slip", 0, [("price", "oil", 1)]), ("slip", 0, [("pay", "ann", "wood", 1)])]:
            self.raises(BadFact, {"given": fact}, check, BARE, [], fact)
            self.assertIsNone(check(RULES, [], fact))
        for fact in [("pay", 0, "ann", "money", 1), ("queue", 0, "ann", "money", [1]), ("slip", 0, [("pay", "ann", "money", 1)])]:
            self.assertIsNone(check(BARE, [], fact))


def told_form(fact):
    """The fact with lists where tuples can be told for lists."""
    return tuple(list(item) if isinstance(item, tuple) else item for item in fact)


class Checking(Case):

    def test_fills(self):
        facts = TRADES + [("slip", 0, [("bust", 0), ("pay", "ann", "wood", 1)]), ("close", 0), ("slip", 1, [("price", "oil", 5)]),
                          ("fill", 4, 1), ("slip", 7, [("price", "oil", 5)]), ("fill", 7, None)]
        for number in [0, 3, 5, 8, 10 ** 30]:
            self.raises(NoSlip, {"given": number}, check, RULES, facts, ("fill", number, 0))
            self.raises(NoSlip, {"given": number}, check, RULES, facts, ("fill", number, 10 ** 30))
            self.raises(NoSlip, {"given": number}, check, RULES, facts, ("fill", number, None))
        for index in [None, 0, 1, 2, 10 ** 30]:
            self.raises(Filled, {"given": 4}, check, RULES, facts, ("fill", 4, index))
            self.raises(Filled, {"given": 7}, check, RULES, facts, ("fill", 7, index))
        for index in [1, 2, 10 ** 30]:
            self.raises(NoDeed, {"given": index}, check, RULES, facts, ("fill", 6, index))
        self.assertIsNone(check(RULES, facts, ("fill", 6, 0)))
        self.assertIsNone(check(RULES, facts, ("fill", 6, None)))
        # A slip of a closed day is filled as any other one.
        self.assertIsNone(check(RULES, facts[:6], ("fill", 4, 0)))
        self.raises(NoDeed, {"given": 2}, check, RULES, facts[:6], ("fill", 4, 2))

    def test_closings(self):
        self.raises(BadDay, {"given": 1}, check, RULES, [], ("close", 1))
        facts = [("close", day) for day in range(13)]
        for day in range(13):
            for other in range(13):
                if day == other:
                    self.assertIsNone(check(RULES, facts[:day], ("close", other)))
                else:
                    self.raises(BadDay, {"given": other}, check, RULES, facts[:day], ("close", other))
        for day in range(13):
            self.raises(BadDay, {"given": day}, check, RULES, facts, ("close", day))
            self.raises(DayClosed, {"given": day}, check, RULES, facts, ("pay", day, "ann", "money", 1))
        self.raises(BadFact, {"given": ("close", 13)}, check, RULES, facts, ("close", 13))

    def test_closed_days(self):
        closed = [("close", 0), ("close", 1)]
        for fact, parts in KINDS:
            if fact[0] not in ("close", "fill"):
                for day in range(2):
                    self.raises(DayClosed, {"given": day}, check, RULES, closed, (fact[0], day, *fact[2:]))
                for day in [2, 3]:
                    self.assertIsNone(check(RULES, closed, (fact[0], day, *fact[2:])))

    def test_trades_of_slips(self):
        for deeds, number in [([("bust", 2)], 2), ([("bust", 3)], 3), ([("bust", 4)], 4), ([("amend", 10 ** 30, 5)], 10 ** 30),
                              ([("bust", 0), ("bust", 9), ("bust", 8)], 9), ([("amend", 2, 5), ("bust", 9)], 2),
                              ([("pay", "ann", "wood", 1), ("amend", 1, 5), ("bust", 3)], 3)]:
            self.raises(NoTrade, {"given": number}, check, RULES, TRADES, ("slip", 0, deeds))
        self.raises(NoTrade, {"given": 0}, check, RULES, TRADES, ("slip", 1, [("bust", 0)]))
        self.assertIsNone(check(RULES, TRADES, ("slip", 1, [("bust", 2), ("amend", 2, 1)])))
        # The number of a slip itself, and of what comes later, is that of no trade told before.
        slip = ("slip", 0, [("bust", 0)])
        self.raises(NoTrade, {"given": 0}, check, RULES, [], slip)
        self.raises(BadFacts, {"given": [slip] + TRADES}, check, RULES, [slip] + TRADES, ("close", 0))
        # The day is looked at ahead of the trades.
        self.raises(DayClosed, {"given": 0}, check, RULES, TRADES + [("close", 0)], ("slip", 0, [("bust", 9)]))
        self.raises(NoTrade, {"given": 0}, check, RULES, TRADES + [("close", 0)], ("slip", 1, [("bust", 0)]))

    def test_wrong_facts_come_first(self):
        for wrong in [wrong for wrong in ODD if wrong not in ([], ())] + ["facts", 1, {("close", 0): 1}, [None], [("close", 1)],
                                                                        [("close", 0), ("close", 0)], [["close", 0]],
                                                                        [("fill", 0, 0)]]:
            for call in [check, at_once, numbered]:
                told = (RULES, wrong, None) if call is check else (RULES, wrong)
                self.raises_given(BadFacts, wrong, call, *told)

    def test_a_fault_at_any_place(self):
        met = set()
        for seed in range(40):
            pick = random.Random(seed)
            rules, facts = random_market(seed)
            closed = len([fact for fact in facts if fact[0] == "close"])
            self.assertIsNone(check(rules, facts, ("close", closed)) if closed < 13 else None)
            for at in [0, len(facts) // 2, len(facts)]:
                before = facts[:at]
                days = len([fact for fact in before if fact[0] == "close"])
                for fault in [("close", days + 1), ("fill", 99, 0), ("pay", 1), None, ("pay", days - 1, "ann", "money", 1),
                              ("slip", days, [("bust", 999)])]:
                    wrong = before + [fault] + facts[at:]
                    self.raises_given(BadFacts, wrong, numbered, rules, wrong)
                    met.add(at > 0)
            for at in range(len(facts)):
                less = facts[:at] + facts[at + 1:]
                try:
                    numbered(rules, less)
                except BadFacts as error:
                    self.assertIs(error.given, less)
        self.assertEqual(met, {True, False})

    def test_facts_are_right_if_each_may_be_told(self):
        for seed in range(60):
            pick = random.Random(seed)
            rules, facts = random_market(seed, most=16)
            for at in range(len(facts)):
                self.assertIsNone(check(rules, facts[:at], facts[at]))
            told = Told(rules)
            for fact in facts:
                told.tell(fact)
            for _ in range(20):
                fact = random_fact(pick, rules, told, ahead=5)
                try:
                    check(rules, facts, fact)
                except (BadFact, NoSlip, Filled, NoDeed, BadDay, DayClosed, NoTrade):
                    self.raises(BadFacts, {"given": facts + [fact]}, numbered, rules, facts + [fact])
                else:
                    self.same(len(numbered(rules, facts + [fact])), len([one for one in facts + [fact] if one[0] != "fill"]))


class Numbers(Case):

    def test_fills_have_none(self):
        facts = [("slip", 0, [("pay", "bob", "money", 4)]), ("price", 0, "oil", 60), ("fill", 0, 0), ("close", 0), ("pay", 1, "ann", "wood", 1)]
        self.same(numbered(rules=RULES, facts=facts), [(0, facts[0]), (1, facts[1]), (2, facts[3]), (3, facts[4])])
        self.same(numbered(RULES, tuple(facts)), numbered(RULES, facts))
        self.same(numbered(RULES, []), [])

    def test_nothing_is_changed(self):
        facts = [("queue", 0, "ann", "wood", [5, 2]), ("slip", 0, [("pay", "bob", "money", 4)])]
        before = copy.deepcopy(facts)
        told = numbered(RULES, facts)
        told[0][1][4].append(9)
        told[1][1][2].clear()
        at_once(RULES, facts)[0][1][4].clear()
        self.same(facts, before)
        self.same(numbered(RULES, facts), list(enumerate(before)))


class AtOnce(Case):

    def test_what_holds(self):
        facts = TRADES + [("slip", 0, [("pay", "bob", "money", -4), ("price", "oil", 9)]), ("price", 0, "oil", 60), ("close", 0),
                          ("queue", 1, "ann", "money", [0]), ("way", 1, "ann", "last"), ("fund", 1, "ann", 2), ("lend", 1, 2, "ann", "bob", 3)]
        kept = [row for row in enumerate(facts) if row[0] not in (4, 6)]
        self.same(at_once(rules=RULES, facts=facts), kept)
        self.same(at_once(RULES, facts + [("fill", 4, None)]), kept)
        self.same(at_once(RULES, facts + [("fill", 4, 0)]), kept[:4] + [(4, ("pay", 0, "bob", "money", -4))] + kept[4:])
        self.same(at_once(RULES, facts + [("fill", 4, 1)]), kept[:4] + [(4, ("price", 0, "oil", 9))] + kept[4:])

    def test_slips_about_trades(self):
        slips = [("slip", 0, [("bust", 0), ("amend", 0, 11), ("pay", "ann", "wood", 1)]), ("slip", 0, [("amend", 0, 22), ("bust", 1)]),
                 ("slip", 0, [("bust", 0), ("amend", 1, 33)])]
        amended = ("trade", 0, "ann", "bob", "wood", 11, 2)

        def trades(*fills):
            facts = TRADES + slips
            for number, index in fills:
                facts = facts + [("fill", number, index)]
            return [(number, fact[5]) for number, fact in at_once(RULES, facts) if fact[0] == "trade"]

        self.same(at_once(RULES, TRADES + slips + [("fill", 4, 1)])[0], (0, amended))
        self.same(trades(), [(0, 7), (1, 7), (2, 7)])
        self.same([trades((4, 0)), trades((4, 1)), trades((4, 2)), trades((4, None))],
                  [[(1, 7), (2, 7)], [(0, 11), (1, 7), (2, 7)], [(0, 7), (1, 7), (2, 7)], [(0, 7), (1, 7), (2, 7)]])
        # The slip with the greatest number counts, whenever it is filled.
        for fills in [[(4, 0), (5, 0)], [(5, 0), (4, 0)], [(4, 0), (5, 0), (6, None)], [(6, 1), (5, 0), (4, 1)]]:
            self.same(dict(trades(*fills))[0], 22)
        for fills in itertools.permutations([(4, 1), (5, 0), (6, 0)]):
            self.assertNotIn(0, dict(trades(*fills)))
        self.same([trades((5, 1), (6, 1)), trades((6, 1), (5, 1)), trades((5, 1))],
                  [[(0, 7), (1, 33), (2, 7)], [(0, 7), (1, 33), (2, 7)], [(0, 7), (2, 7)]])

    def test_early_or_late(self):
        for seed in range(120):
            pick = random.Random(seed)
            rules, facts = random_market(seed)
            self.same(at_once(rules, facts), holding_by_words(facts))
            fills = [fact for fact in facts if fact[0] == "fill"]
            rest = [fact for fact in facts if fact[0] != "fill"]
            self.same(at_once(rules, rest + pick.sample(fills, len(fills))), holding_by_words(facts))
            # As early as can be: each one right behind its slip.
            early = [one for number, fact in enumerate(rest) for one in [fact] + [fill for fill in fills if fill[1] == number]]
            self.same(at_once(rules, early), holding_by_words(facts))
            self.same(numbered(rules, early), numbered(rules, facts))

    def test_as_if_told_in_its_place(self):
        for seed in range(120):
            rules, facts = random_market(seed)
            held = at_once(rules, facts)
            # Payments and prices of slips could have been facts of their day.
            self.assertTrue(all(check(rules, [], fact) is None for number, fact in held))
            self.same([number for number, fact in held], sorted({number for number, fact in held}))


if __name__ == "__main__":
    unittest.main()
