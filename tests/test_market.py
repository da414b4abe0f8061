"""The market, and what was posted [96], [97]."""

import copy
import random
import unittest

from evenmarket.errors import BadDay, MarketError
from evenmarket.facts import BadFact, DayClosed, Filled, NoDeed, NoSlip, NoTrade, NotKnown, Rules
from evenmarket.journals import Journal, differences
from evenmarket.market import Market
from evenmarket.run import run
from evenmarket.telling import at_once, check, numbered
from tests.checks import Case, ODD
from tests.markets import Words, random_fact, random_market
from tests.test_positions import NO_INTEGERS

RULES = Rules(["wood"], ["oil"], [{}, {"oil": 5}, {"oil": -5}])
FACTS = [("slip", 0, [("pay", "bob", "money", 4)]), ("queue", 0, "ann", "wood", [0]), ("close", 0), ("fill", 0, 0), ("close", 1)]


def market_of(rules, facts):
    market = Market(rules)
    for fact in facts:
        market.tell(fact)
    return market


def state(market):
    """All that a market tells."""
    return (market.facts(), len(market), market.open_slips(), market.run().things(), market.run().journal().text(), market.posted().text())


def posted_by_words(rules, facts):
    """The rows of [97] as tuples, with balances that are summed from the rows."""
    posted = []
    for at, fact in enumerate(facts):
        if fact[0] == "close":
            rows = Words(rules, facts[:at + 1]).rows
            before = {}
            for sign, some in [(1, [row for row in rows if row[0] < fact[1]]), (-1, posted)]:
                for day, cause, postings in some:
                    for account, amount in postings.items():
                        before[account] = before.get(account, 0) + sign * amount
            for unit in sorted({account[1] for account, amount in before.items() if amount}):
                posted.append((fact[1], ("adjust", fact[1], unit),
                               {account: amount for account, amount in before.items() if amount and account[1] == unit}))
            posted += [row for row in rows if row[0] == fact[1]]
    return posted


class Telling(Case):

    def test_numbers(self):
        market = Market(rules=RULES)
        self.same([market.tell(fact=fact) for fact in FACTS], [0, 1, 2, None, 3])
        self.same([market.facts(), len(market), market.open_slips()], [FACTS, 5, []])
        self.assertTrue(market.rules() == RULES)
        self.same([len(Market(RULES)), Market(RULES).facts(), Market(RULES).open_slips(), len(Market(RULES).posted())], [0, [], [], 0])
        self.same(market.run().things(), run(RULES, FACTS).things())

    def test_refused_facts_by_turns(self):
        refused = set()
        for seed in range(60):
            pick = random.Random(seed)
            rules, facts = random_market(seed)
            market, told = Market(rules), []
            for fact in facts:
                others = [random_fact(pick, rules, market_told(rules, told), ahead=5) for _ in range(3)]
                for other in others + [("pay", pick.randrange(13), "ann", "money", 1), ("close", pick.randrange(13))]:
                    try:
                        check(rules, told, other)
                    except MarketError as error:
                        before = state(market) if len(told) % 8 == 0 else None
                        self.raises(type(error), vars(error), market.tell, other)
                        self.assertTrue(before is None or state(market) == before)
                        refused.add(type(error))
                self.same(market.tell(fact), None if fact[0] == "fill" else len(numbered(rules, told)))
                told.append(fact)
                self.same(len(market), len(told))
            self.same(market.facts(), facts)
        self.assertTrue({BadFact, BadDay, DayClosed, NoTrade, NoDeed} <= refused)

    def test_errors(self):
        for wrong in ODD + [("close",), ["close", 0]]:
            self.raises_given(BadFact, wrong, Market(RULES).tell, wrong)
        market = market_of(RULES, FACTS)
        for error, given, fact in [(NoSlip, 1, ("fill", 1, 0)), (Filled, 0, ("fill", 0, 0)), (BadDay, 1, ("close", 1)),
                                   (DayClosed, 1, ("pay", 1, "ann", "wood", 1)), (NoTrade, 5, ("slip", 2, [("bust", 5)]))]:
            self.raises(error, {"given": given}, market.tell, fact)
        self.raises(NoDeed, {"given": 1}, market_of(RULES, FACTS[:2]).tell, ("fill", 0, 1))
        self.same([market.facts(), market.tell(("close", 2))], [FACTS, 4])

    def test_lists_and_tuples(self):
        deeds, numbers = [("pay", "bob", "money", 4)], [3, 1]
        market = market_of(RULES, [("slip", 0, deeds), ("queue", 0, "ann", "wood", numbers), ("slip", 0, tuple(deeds)),
                                   ("queue", 0, "ann", "wood", ())])
        deeds.clear()
        numbers.append(7)
        expected = [("slip", 0, [("pay", "bob", "money", 4)]), ("queue", 0, "ann", "wood", [3, 1]), ("slip", 0, [("pay", "bob", "money", 4)]),
                    ("queue", 0, "ann", "wood", [])]
        self.same(market.facts(), expected)
        for fact in market.facts():
            fact[-1].append(9)
        market.facts().clear()
        market.open_slips().clear()
        self.same([market.facts(), market.open_slips()], [expected, [0, 2]])

    def test_rules_never_change(self):
        goods, contracts, moves = ["wood"], ["oil"], [{}, {"oil": 5}]
        market = Market(Rules(goods, contracts, moves))
        moves[1]["oil"] = 7
        market.rules().moves()[1]["oil"] = 8
        market.rules().goods().append("gold")
        self.assertTrue(market.rules() == Rules(["wood"], ["oil"], [{}, {"oil": 5}]))
        self.raises(BadFact, {"given": ("pay", 0, "ann", "gold", 1)}, market.tell, ("pay", 0, "ann", "gold", 1))


def market_told(rules, facts):
    """What the maker of random facts looks at."""
    return market_of(rules, facts)._told


class Known(Case):

    def test_each_count(self):
        for seed in range(30):
            rules, facts = random_market(seed)
            market = market_of(rules, facts)
            before = copy.deepcopy(market.facts())
            for count in range(len(facts) + 1):
                known = market.known(count=count)
                self.assertIsInstance(known, Market)
                self.same([known.facts(), len(known)], [facts[:count], count])
                self.assertTrue(known.rules() == rules)
                if count < len(facts):
                    known.tell(facts[count])
                    self.same(known.facts(), facts[:count + 1])
            self.same(market.facts(), before)

    def test_no_count(self):
        market = market_of(RULES, FACTS)
        for wrong in NO_INTEGERS + ODD + [-1, 6, 10 ** 30]:
            self.raises_given(NotKnown, wrong, market.known, wrong)
        self.raises(NotKnown, {"given": 1}, Market(RULES).known, 1)
        self.same(len(Market(RULES).known(0)), 0)
        self.same([market.known(2).open_slips(), market.known(4).open_slips()], [[0], []])

    def test_open_slips(self):
        for seed in range(30):
            rules, facts = random_market(seed)
            filled = [fact[1] for fact in facts if fact[0] == "fill"]
            slips = [number for number, fact in numbered(rules, facts) if fact[0] == "slip"]
            self.same(market_of(rules, facts).open_slips(), [number for number in slips if number not in filled])


class Posted(Case):

    def test_a_slip_that_is_filled_late(self):
        market = market_of(RULES, FACTS)
        account = ("bob", "money", "free")
        self.same([market.run().journal().balance(account, 0), market.posted().balance(account, 0),
                   [str(row) for row in market.posted().rows(1)]],
                  [4, 0, ["1 adjust 1 money, bob money free 4, outside money free -4"]])
        self.assertIsInstance(market.posted(), Journal)
        # Filled ahead of the closing, it is a row of its day.
        early = market_of(RULES, [FACTS[0], FACTS[3], FACTS[2], FACTS[4]])
        self.same([early.posted().text(), early.posted().balance(account)], ["0 pay 0, bob money free 4, outside money free -4", 4])
        # Filled when no day is closed behind it, nothing is posted.
        self.same(len(market_of(RULES, FACTS[:4]).posted()), 0)
        self.same(len(market_of(RULES, [FACTS[0], ("fill", 0, None), FACTS[2], FACTS[4]]).posted()), 0)

    def test_open_days_are_not_posted(self):
        market = market_of(RULES, [("pay", 1, "ann", "wood", 5), ("close", 0)])
        self.same([len(market.posted()), len(market.run().journal())], [0, 1])
        market.tell(("close", 1))
        self.same(market.posted().text(), "1 pay 0, ann wood free 5, outside wood free -5")

    def test_a_bust_trade_turns_what_was_settled(self):
        market = market_of(RULES, [("pay", 0, "ann", "wood", 3), ("pay", 0, "bob", "money", 60), ("trade", 0, "bob", "ann", "wood", 20, 3),
                                   ("slip", 0, [("bust", 2)]), ("close", 0), ("close", 1), ("fill", 3, 0), ("close", 2), ("close", 3)])
        self.same([str(row) for row in market.posted().rows(1)],
                  ["1 settle 1 2, ann money free 60, ann wood free -3, bob money free -60, bob wood free 3"])
        self.same([str(row) for row in market.posted().rows(2)], [
            "2 adjust 2 money, ann money free -60, bob money free 60", "2 adjust 2 wood, ann wood free 3, bob wood free -3"])
        self.same([market.posted().rows(3), market.posted().cut() == market.run().journal().cut()], [[], True])

    def test_rows_behind_each_closing(self):
        adjusted = 0
        for seed in range(150):
            rules, facts = random_market(seed, most=50)
            market, before = Market(rules), []
            for fact in facts:
                market.tell(fact)
                if fact[0] == "close":
                    posted = market.posted()
                    rows = posted.rows()
                    # What was posted stays.
                    self.assertEqual(rows[:len(before)], before)
                    self.assertTrue(all(row.day == fact[1] for row in rows[len(before):]))
                    # The posted balances are those of the run as known then.
                    self.same(posted.cut(), run(rules, market.facts()).journal().cut(fact[1]))
                    self.same(differences(posted, market.run().journal(), fact[1]), {})
                    adjusted += len([row for row in rows if row.cause[0] == "adjust"])
                    before = rows
            self.assertEqual([(row.day, row.cause, row.postings()) for row in market.posted().rows()],
                             posted_by_words(rules, facts) if seed < 60 else
                             [(row.day, row.cause, row.postings()) for row in before])
        self.assertGreater(adjusted, 50)

    def test_markets_that_differ_in_when_slips_were_filled(self):
        met = set()
        for seed in range(80):
            pick = random.Random(seed)
            rules, facts = random_market(seed, most=40)
            fills = [fact for fact in facts if fact[0] == "fill"]
            rest = [fact for fact in facts if fact[0] != "fill"]
            other, waiting = [], []
            for number, fact in enumerate(rest):
                other.append(fact)
                waiting += [fill for fill in fills if fill[1] == number]
                while waiting and pick.randrange(3) == 0:
                    other.append(waiting.pop(pick.randrange(len(waiting))))
            other += waiting
            self.assertEqual(at_once(rules, other), at_once(rules, facts))
            one_posted, other_posted = market_of(rules, facts).posted(), market_of(rules, other).posted()
            last = [max([at for at, fact in enumerate(some) if fact[0] == "fill"], default=-1) for some in (facts, other)]
            days = [{fact[1] for fact in some[at + 1:] if fact[0] == "close"} for some, at in zip((facts, other), last)]
            for day in days[0] & days[1]:
                self.same(one_posted.cut(day), other_posted.cut(day))
                met.add(one_posted == other_posted)
        self.assertEqual(met, {True, False})


if __name__ == "__main__":
    unittest.main()
