"""What viewers see, and what they are told [101] to [104]."""

import copy
import itertools
import random
import unittest

from evenmarket.facts import BadFacts, BadQuestion, Rules
from evenmarket.journals import Journal
from evenmarket.market import Market
from evenmarket.run import run
from evenmarket.sight import BadViewer, Hidden, seen, seen_rows, told
from evenmarket.telling import numbered
from tests.checks import Case, ODD, WRONG_NAMES
from tests.markets import MEMBERS, random_market
from tests.test_final import NO_QUESTIONS, QUESTIONS, SHORT
from tests.test_market import market_of

RULES = Rules(["wood"], ["oil"], [{}, {"oil": 5}, {"oil": -5}])
FACTS = [("pay", 0, "ann", "wood", 5), ("lend", 1, 2, "ann", "bob", 3), ("way", 0, "bob", "last"), ("fund", 3, "ann", 2),
         ("queue", 0, "bob", "money", [3, 1]), ("price", 0, "oil", 9), ("trade", 0, "bob", "ann", "wood", 20, 3), ("trade", 0, "cid", "bob", "oil", 20, 3),
         ("slip", 0, [("pay", "ann", "wood", 1), ("price", "oil", 4), ("bust", 6)]), ("slip", 0, [("amend", 7, 5), ("pay", "bob", "money", -1)]),
         ("fill", 9, 1), ("close", 0)]
NO_VIEWERS = [wrong for wrong in ODD + WRONG_NAMES] + ["outside", "money", "House", ("house",), ["house"], "houses "]
VIEWERS = ["ann", "bob", "cid", "zoe", "house"]


def seen_by_words(fact, viewer):
    """What [101] says of one fact."""
    if viewer == "house" or fact[0] in ("price", "fill", "close"):
        return fact
    if fact[0] == "trade":
        return fact[:2] + tuple(name if name == viewer else "" for name in fact[2:4]) + fact[4:]
    if fact[0] == "slip":
        return ("slip", fact[1], [deed if deed[0] != "pay" or deed[1] == viewer else ("hidden",) for deed in fact[2]])
    names = {"pay": fact[2:3], "lend": fact[3:5], "way": fact[2:3], "fund": fact[2:3], "queue": fact[2:3]}[fact[0]]
    return fact if viewer in names else ("hidden", fact[1])


def all_questions(rules, facts):
    """All questions of the four kinds that somebody may ask, of the members that are there."""
    days = range(len([fact for fact in facts if fact[0] == "close"]))
    sales = [number for number, fact in numbered(rules, facts) if fact[0] == "trade" and fact[4] in rules.goods()]
    accounts = [(owner, unit, place) for owner in MEMBERS + ["house", "outside"] for unit in ["money"] + rules.goods()
                for place in ["free", "cover", "fund"] if place == "free" or unit == "money"]
    for day in days:
        yield from [("price", contract, day) for contract in rules.contracts()]
        yield from [("balance", account, day) for account in accounts]
        yield from [("settled", number, day) for number in sales]
        yield from [("paid", *pair, day) for pair in itertools.permutations(MEMBERS, 2)]


class Seen(Case):

    def test_each_fact(self):
        hidden = [("hidden", 0)]
        self.same(seen(rules=RULES, facts=FACTS, viewer="house"), FACTS)
        self.same(seen(RULES, FACTS, "ann"), FACTS[:2] + hidden + FACTS[3:4] + hidden + FACTS[5:6] + [
            ("trade", 0, "", "ann", "wood", 20, 3), ("trade", 0, "", "", "oil", 20, 3), FACTS[8], ("slip", 0, [("amend", 7, 5), ("hidden",)])] + FACTS[10:])
        self.same(seen(RULES, FACTS, "bob"), hidden + FACTS[1:3] + [("hidden", 3)] + FACTS[4:6] + [
            ("trade", 0, "bob", "", "wood", 20, 3), ("trade", 0, "", "bob", "oil", 20, 3),
            ("slip", 0, [("hidden",), ("price", "oil", 4), ("bust", 6)])] + FACTS[9:])
        self.same(seen(RULES, FACTS, "zoe"), hidden + [("hidden", 1)] + hidden + [("hidden", 3)] + hidden + FACTS[5:6] + [
            ("trade", 0, "", "", "wood", 20, 3), ("trade", 0, "", "", "oil", 20, 3), ("slip", 0, [("hidden",), ("price", "oil", 4), ("bust", 6)]),
            ("slip", 0, [("amend", 7, 5), ("hidden",)])] + FACTS[10:])
        self.same(seen(RULES, [], "ann"), [])

    def test_against_the_words(self):
        for seed in range(40):
            rules, facts = random_market(seed, most=40)
            before = copy.deepcopy(facts)
            for viewer in MEMBERS + ["zoe", "house"]:
                self.same(seen(rules, facts, viewer), [seen_by_words(fact, viewer) for fact in market_of(rules, facts).facts()])
            self.same(facts, before)

    def test_lists_and_tuples(self):
        facts = [("slip", 0, (("price", "oil", 4),)), ("queue", 0, "ann", "wood", (2, 1))]
        for viewer in ["house", "ann"]:
            self.same(seen(RULES, tuple(facts), viewer), [("slip", 0, [("price", "oil", 4)]), ("queue", 0, "ann", "wood", [2, 1])])
        given = [("queue", 0, "ann", "wood", [2, 1])]
        for viewer in ["house", "ann"]:
            seen(RULES, given, viewer)[0][4].clear()
        self.same(given, [("queue", 0, "ann", "wood", [2, 1])])

    def test_errors_in_order(self):
        for wrong in [wrong for wrong in ODD if wrong not in ([], ())]:
            self.raises_given(BadFacts, wrong, seen, RULES, wrong, None)
        for wrong in NO_VIEWERS:
            self.raises_given(BadViewer, wrong, seen, RULES, FACTS, wrong)
            self.raises_given(BadViewer, wrong, seen_rows, Journal(), wrong)
            self.raises_given(BadViewer, wrong, told, Market(RULES), wrong, None)


class SeenRows(Case):

    def test_members_and_the_house(self):
        journal = market_of(RULES, FACTS).posted()
        self.same(seen_rows(journal=journal, viewer="ann"), [(0, ("pay", 0), {("wood", "free"): 5})])
        # A fill has no number: the fact behind it has the number 9 + 1.
        self.same(seen_rows(journal, "bob"), [
            (0, ("pay", 9), {("money", "free"): -1}), (0, ("mark", 0, "oil"), {("money", "free"): 33}),
            (0, ("cover", 0, "bob"), {("money", "cover"): 15, ("money", "free"): -15})])
        self.same(seen_rows(journal, "house"), [(row.day, row.cause, row.postings()) for row in journal.rows()])
        self.same([seen_rows(journal, "zoe"), seen_rows(Journal(), "house")], [[], []])

    def test_all_together_see_all_rows(self):
        for seed in range(60):
            rules, facts = random_market(seed, most=40)
            journal = market_of(rules, facts).posted()
            house = seen_rows(journal, "house")
            together = {}
            for viewer in MEMBERS:
                expected = [row for row in journal.rows() if viewer in row.owners()]
                rows = seen_rows(journal, viewer)
                self.same([(day, cause) for day, cause, changes in rows], [(row.day, row.cause) for row in expected])
                for (day, cause, changes), row in zip(rows, expected):
                    self.same(changes, {account[1:]: amount for account, amount in row.postings().items() if account[0] == viewer})
                    together.setdefault((day, cause), {}).update({(viewer, *place): amount for place, amount in changes.items()})
            for day, cause, postings in house:
                rest = {account: amount for account, amount in postings.items() if account[0] in ("house", "outside")}
                self.assertEqual({**together.get((day, cause), {}), **rest}, postings)

    def test_nothing_is_changed(self):
        journal = market_of(RULES, FACTS).posted()
        for viewer in ["ann", "house"]:
            seen_rows(journal, viewer)[0][2].clear()
            self.same(len(seen_rows(journal, viewer)[0][2]), 1 if viewer == "ann" else 2)


class Told(Case):

    def test_what_is_posted(self):
        facts = [("pay", 0, "ann", "wood", 3), ("pay", 0, "bob", "money", 60), ("trade", 0, "bob", "ann", "wood", 20, 3), ("slip", 0, [("bust", 2)]),
                 ("slip", 0, [("price", "oil", 44)]), ("lend", 0, 1, "bob", "ann", 8), ("pay", 0, "bob", "money", 8), ("close", 0), ("close", 1)]
        market = market_of(RULES, facts)
        self.same([told(market=market, viewer="bob", question=("settled", 2, 1)), told(market, "ann", ("settled", 2, 1)), told(market, "ann", ("settled", 2, 0)),
                   told(market, "house", ("settled", 2, 1)), told(market, "ann", ("paid", "bob", "ann", 1)), told(market, "ann", ("paid", "ann", "bob", 1)),
                   told(market, "bob", ("paid", "bob", "ann", 0)), told(market, "ann", ("balance", ("ann", "money", "free"), 1)),
                   told(market, "ann", ("balance", ("ann", "wood", "free"), 1)), told(market, "cid", ("price", "oil", 1))],
                  [60, 60, None, 60, 8, None, None, 60, None, 50])
        market.tell(("fill", 3, 0))
        market.tell(("fill", 4, 0))
        market.tell(("close", 2))
        # The run is another one now, but what was posted stays, and the price is told as it is now.
        self.same(run(RULES, market.facts()).things().get(("settled", 2, 1)), None)
        self.same([told(market, "bob", ("settled", 2, 1)), told(market, "ann", ("paid", "bob", "ann", 1)), told(market, "zoe", ("price", "oil", 0)),
                   told(market, "ann", ("balance", ("ann", "money", "free"), 1)), told(market, "ann", ("balance", ("ann", "money", "free"), 2)),
                   told(market, "ann", ("balance", ("ann", "wood", "free"), 2)), told(market, "house", ("balance", ("ann", "wood", "free"), 2))],
                  [60, 8, 44, 60, None, 3, 3])
        self.same(len(market), 12)

    def test_a_single_unit_of_money(self):
        market = market_of(RULES, [("pay", 0, "ann", "wood", 1), ("pay", 0, "bob", "money", 2), ("trade", 0, "bob", "ann", "wood", 1, 1),
                                   ("lend", 0, 1, "bob", "cid", 1), ("close", 0), ("close", 1)])
        self.same([told(market, "ann", ("settled", 2, 1)), told(market, "cid", ("paid", "bob", "cid", 1))], [1, 1])

    def test_members_who_are_called_as_other_things(self):
        facts = [("trade", 0, "bob", "ann", "wood", 1, 1), ("pay", 0, "wood", "wood", 1), ("lend", 0, 1, "paid", "oil", 1), ("close", 0)]
        for viewer in ["wood", "trade", "settled", "paid", "free"]:
            self.raises(Hidden, {"given": ("settled", 0, 0)}, told, market_of(RULES, facts), viewer, ("settled", 0, 0))
            self.raises(Hidden, {"given": ("paid", "ann", "bob", 0)}, told, market_of(RULES, facts), viewer, ("paid", "ann", "bob", 0))
        self.same(seen(RULES, facts, "wood"), [("trade", 0, "", "", "wood", 1, 1), facts[1], ("hidden", 0), facts[3]])
        self.same(told(market_of(RULES, facts), "wood", ("balance", ("wood", "wood", "free"), 0)), 1)

    def test_who_may_ask(self):
        for viewer in VIEWERS:
            for question in QUESTIONS:
                market = market_of(RULES, SHORT)
                may = {"price": True, "balance": isinstance(question[1], tuple) and question[1][0] == viewer, "settled": viewer in ("ann", "bob"),
                       "paid": viewer in question[1:3]}.get(question[0], False)
                if viewer == "house":
                    may = question[0] in ("price", "balance", "settled", "paid")
                if may:
                    self.same(told(market, viewer, question), run(RULES, SHORT).things().get(question))
                else:
                    self.raises(Hidden, {"given": question}, told, market, viewer, question)
        trades = SHORT[:1] + [("trade", 0, "cid", "bob", "wood", 1, 1), ("close", 0)]
        self.raises(Hidden, {"given": ("settled", 0, 0)}, told, market_of(RULES, trades), "cid", ("settled", 0, 0))
        self.same(told(market_of(RULES, trades), "cid", ("settled", 1, 0)), None)
        self.raises(Hidden, {"given": ("balance", ("house", "money", "free"), 0)}, told, market_of(RULES, SHORT), "ann", ("balance", ("house", "money", "free"), 0))
        self.raises(Hidden, {"given": ("balance", ("outside", "wood", "free"), 0)}, told, market_of(RULES, SHORT), "ann",
                    ("balance", ("outside", "wood", "free"), 0))
        self.same(told(market_of(RULES, SHORT), "house", ("balance", ("outside", "wood", "free"), 0)), -1)

    def test_no_questions(self):
        market = market_of(RULES, SHORT)
        for viewer in ["ann", "house", "zoe"]:
            for wrong in NO_QUESTIONS:
                self.raises_given(BadQuestion, wrong, told, market, viewer, wrong)

    def test_against_the_words(self):
        met = {}
        for seed in range(60):
            rules, facts = random_market(seed, most=40)
            market = market_of(rules, facts)
            posted, things, facts_of = market.posted(), market.run().things(), dict(numbered(rules, facts))
            asked = list(all_questions(rules, facts))
            settled = [("settled", row.cause[2], row.day) for row in posted.rows() if row.cause[0] == "settle"]
            for question in random.Random(seed).sample(asked, min(12, len(asked))) + settled:
                word, day = question[0], question[-1]
                if word == "price":
                    value, may = things[question], MEMBERS
                elif word == "balance":
                    value, may = posted.balance(question[1], day) or None, [question[1][0]]
                else:
                    cause = ("settle", day, question[1]) if word == "settled" else ("debt", day, *question[1:3])
                    moved = [max(amount for account, amount in row.postings().items() if account[1] == "money") for row in posted.caused(cause)]
                    value, may = sum(moved) or None, facts_of[question[1]][2:4] if word == "settled" else question[1:3]
                self.same(told(market, "house", question), value)
                for viewer in MEMBERS:
                    if viewer in may:
                        self.same(told(market, viewer, question), value)
                    else:
                        self.raises(Hidden, {"given": question}, told, market, viewer, question)
                met.setdefault(word, set()).add(value is None)
        self.assertEqual(met, {"price": {False}, "balance": {True, False}, "settled": {True, False}, "paid": {True, False}})

    def test_markets_that_look_the_same(self):
        same = 0
        for seed in range(120):
            pick = random.Random(seed)
            rules, facts = random_market(seed, most=24)
            viewer = pick.choice(MEMBERS)
            others = [name for name in MEMBERS if name != viewer]
            names = dict(zip(others, pick.sample(others, 3)))
            other = [renamed(fact, names) for fact in facts]
            if pick.randrange(2):
                # What the others are paid is not seen, as long as nothing that is seen comes of it.
                other = [("pay", *fact[1:4], fact[4] + 1) if fact[0] == "pay" and fact[2] != viewer and fact[4] > 0 else fact for fact in other]
            one_market, other_market = market_of(rules, facts), market_of(rules, other)
            if seen(rules, facts, viewer) != seen(rules, other, viewer):
                continue
            if seen_rows(one_market.posted(), viewer) != seen_rows(other_market.posted(), viewer):
                continue
            same += facts != other
            asked = list(all_questions(rules, facts))
            for question in pick.sample(asked, min(40, len(asked))):
                answers = []
                for market in (one_market, other_market):
                    try:
                        answers.append(told(market, viewer, question))
                    except Hidden:
                        answers.append("hidden")
                if question[0] != "settled":
                    self.same(answers[0], answers[1])
                elif "hidden" not in answers:
                    self.same(answers[0], answers[1])
        self.assertGreater(same, 20)


def renamed(value, names):
    """The value with other names of members."""
    if isinstance(value, (list, tuple)):
        items = [renamed(item, names) for item in value]
        return items if isinstance(value, list) else tuple(items)
    return names.get(value, value) if isinstance(value, str) else value


if __name__ == "__main__":
    unittest.main()
