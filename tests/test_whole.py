"""What the document promises over the whole package [1] to [11]."""

import copy
import random
import unittest

from evenmarket.auctions import Auction
from evenmarket.bundles import bundles, is_unwinding, unwinding
from evenmarket.console import Console
from evenmarket.dues import Due
from evenmarket.errors import MarketError
from evenmarket.facts import ManySlips, Rules
from evenmarket.final import answer, answers, chain, change_places, fillings, final, matters, reach
from evenmarket.greatest import goes_together, settled
from evenmarket.handing import rows_of
from evenmarket.helping import least_help, settled_without, shortfalls, staircase, sure
from evenmarket.journals import Journal
from evenmarket.ladders import Ladder
from evenmarket.lots import Lots
from evenmarket.market import Market
from evenmarket.orders import Order
from evenmarket.pools import Pool
from evenmarket.rounds import Round
from evenmarket.rows import Row
from evenmarket.run import run
from evenmarket.sight import seen, seen_rows
from evenmarket.statements import rows_of_statements
from evenmarket.strikes import are_strikes, root, roots, strikes, strikes_of
from evenmarket.telling import at_once, check, numbered
from tests.checks import Case
from tests.markets import MEMBERS, random_market
from tests.test_final import FACTS, RULES, fills_of
from tests.test_market import market_of
from tests.test_rounds import FOUR, RING

LINES = {"pay": "pay {2} {3} {4}", "price": "price {2} {3}", "fund": "fund {2} {3}", "lend": "lend {2} {3} {4} {5}", "way": "way {2} {3}",
         "close": "close", "fill": "fill {1} {2}"}


def line_of(fact):
    """The line by which a console is told a fact of its day, or None."""
    if fact[0] == "trade" or fact[0] == "queue" and not fact[4]:
        return None
    if fact[0] == "queue":
        return "queue {2} {3} ".format(*fact) + " ".join(map(str, fact[4]))
    if fact[0] == "slip":
        return "slip " + " / ".join(" ".join(map(str, deed)) for deed in fact[2])
    return LINES[fact[0]].format(*fact).replace("None", "none")


def trade_lines(fact, at):
    """The lines of two orders that make just this trade, where no others stand."""
    word, day, buyer, seller, unit, price, amount = fact
    return [f"order s{'abcdefghij'[at // 10 % 10]}{'abcdefghij'[at % 10]} {seller} sell {unit} {price} {amount}",
            f"order b{'abcdefghij'[at // 10 % 10]}{'abcdefghij'[at % 10]} {buyer} buy {unit} {price} {amount}"]


def todays(facts):
    """The facts of right ones that are told of the least open day, with what still stands behind that."""
    kept, days = [], 0
    for fact in facts:
        if fact[0] not in ("fill", "close", "slip", "queue"):
            kept.append((fact[0], days, *fact[2:]) if fact[0] != "lend" else ("lend", days, max(days, fact[2]), *fact[3:]))
        elif fact[0] == "close":
            kept.append(("close", days))
            days += 1
    return kept


class SameFacts(Case):

    def test_in_whatever_way_they_were_told(self):
        for seed in range(60):
            rules, facts = random_market(seed, most=30)
            market = market_of(rules, facts)
            found, journal = run(rules, facts).things(), run(rules, facts).journal()
            for other in [market, market.known(len(facts)), market_of(rules, tuples(facts)), market_of(market.rules(), market.facts())]:
                self.assertEqual(other.run().things(), found)
                self.assertEqual(other.run().journal(), journal)
                self.assertEqual(other.posted(), market.posted())
                self.same(other.run().days(), run(rules, facts).days())

    def test_by_lines(self):
        for seed in range(60):
            rules, facts = random_market(seed, most=40)
            facts = todays(facts)
            console = Console(rules)
            for at, fact in enumerate(facts):
                console.take("\n".join(trade_lines(fact, at)) if fact[0] == "trade" else line_of(fact))
            self.same(console.market().facts(), facts)
            self.assertEqual(console.market().run().things(), run(rules, facts).things())
            self.assertEqual(console.market().posted(), market_of(rules, facts).posted())

    def test_slips_and_queues_by_lines(self):
        text = "pay ann wood 9\norder oa ann sell wood 5 1\norder ob bob buy wood 5 1\nslip bust 1 / amend 1 9 / pay bob money 7\nqueue ann wood 1\nclose\nfill 2 1\nclose"
        console = Console(RULES)
        console.take(text)
        lines = [line_of(fact) for fact in console.market().facts()]
        self.same([line for line in lines if line], [line for line in text.split("\n") if not line.startswith("order")])


def tuples(value):
    """The value with tuples for all lists."""
    return tuple(tuples(item) for item in value) if isinstance(value, (list, tuple)) else value


class Balanced(Case):

    def test_each_unit_sums_to_0_up_to_each_day(self):
        for seed in range(60):
            rules, facts = random_market(seed, most=50)
            market = market_of(rules, facts)
            for journal in (market.posted(), market.run().journal()):
                for unit in ["money"] + rules.goods():
                    self.same([journal.total(unit, day=day) for day in range(13)], [0] * 13)
                # Only payments and what adjusts them bring something from outside.
                for row in journal.rows():
                    self.assertTrue(row.cause[0] in ("pay", "adjust") or "outside" not in row.owners())
                self.assertTrue(Journal.read(journal.text()) == journal)

    def test_statements_tell_the_posted_rows(self):
        for seed in range(20):
            rules, facts = random_market(seed, most=50)
            posted = market_of(rules, facts).posted()
            if posted.rows():
                statements = [posted.statement(owner, 0, 12) for owner in posted.owners()]
                self.assertTrue(rows_of_statements(statements) == posted.rows())

    def test_who_sees_what_adds_up(self):
        for seed in range(20):
            rules, facts = random_market(seed)
            posted = market_of(rules, facts).posted()
            for member in MEMBERS:
                sums = {}
                for day, cause, changes in seen_rows(posted, member):
                    for place, amount in changes.items():
                        sums[place] = sums.get(place, 0) + amount
                self.assertEqual({place: amount for place, amount in sums.items() if amount},
                                 {account[1:]: amount for account, amount in posted.cut().items() if account[0] == member})


class Arguments(Case):

    def calls(self):
        """Functions with arguments that are made anew each time."""
        still, row, facts = ["cid"], strikes(RING, ["cid"]), copy.deepcopy(FACTS)
        question, thing = ("standing", 3, 1), ("settled", 3, 1)
        rules, journal = RULES, market_of(RULES, FACTS).posted()
        return [
            (strikes, [RING, still]), (are_strikes, [RING, row, still]), (strikes_of, [RING, 4]), (root, [RING, 4]), (roots, [RING]), (bundles, [RING]),
            (unwinding, [RING]), (is_unwinding, [RING, [[3, 1, 2]]]), (staircase, [RING, "ann", "iron"]), (least_help, [RING, "ann", "iron", 4]),
            (shortfalls, [RING]), (settled_without, [RING, still]), (sure, [RING, 1]), (check, [rules, facts, ("slip", 2, [("price", "oil", 5)])]),
            (numbered, [rules, facts]), (at_once, [rules, facts]), (reach, [rules, facts, ("fill", 1, 0)]), (chain, [rules, facts, ("fill", 1, 0), thing]),
            (answer, [rules, facts, question]), (final, [rules, facts, question]), (answers, [rules, facts, question]), (matters, [rules, facts, question]),
            (change_places, [rules, facts, ("close", 2), ("fill", 1, 0)]), (seen, [rules, facts, "ann"]), (seen, [rules, facts, "house"]),
            (seen_rows, [journal, "ann"]), (seen_rows, [journal, "house"]), (goes_together, [RING, [3, 2, 1]])]

    def test_nothing_that_is_handed_in_is_changed(self):
        for function, told_values in self.calls():
            plain = [value for value in told_values if not isinstance(value, (Round, Rules, Journal))]
            before = repr(plain)
            first = function(*told_values)
            kept = repr(first)
            spoiled(first)
            self.assertEqual(repr(plain), before, function)
            self.assertEqual(repr(function(*told_values)), kept, function)
            # Tuples do where lists are expected.
            names = function.__code__.co_varnames[:len(told_values)]
            self.assertEqual(repr(function(**dict(zip(names, map(top_tuple, told_values))))), kept, function)
        self.same([RING.numbers(), RING.queue("ann", "iron"), RING.holds("dee", "money")], [[1, 2, 3, 4], [1, 4], 4])

    def test_what_is_told_of_objects_may_be_changed(self):
        market, console = market_of(RULES, FACTS), Console(RULES)
        console.take("pay ann wood 5\norder a ann sell wood 5 5\norder b bob buy wood 5 2\nslip pay ann wood 1\nclose")
        for method in [market.facts, market.run().things, market.posted().rows, market.open_slips, market.rules().moves, market.rules().goods, console.names,
                       console.steps, console.market().facts, lambda: console.shown("wood"), lambda: list(fillings(RULES, FACTS))]:
            before = repr(method())
            spoiled(method())
            self.assertEqual(repr(method()), before)

    def test_facts_that_are_changed_afterwards(self):
        for seed in range(20):
            rules, facts = random_market(seed)
            market = market_of(rules, facts)
            expected = copy.deepcopy(facts)
            spoiled(facts)
            self.same(market.facts(), expected)
            self.assertEqual(market.run().things(), run(rules, expected).things())


def spoiled(value):
    """Empty all lists and dicts of a value, at every depth."""
    if isinstance(value, (list, tuple)):
        for item in value:
            spoiled(item)
    if isinstance(value, dict):
        for item in value.values():
            spoiled(item)
    if isinstance(value, (list, dict)):
        value.clear()


def top_tuple(value):
    return tuple(value) if isinstance(value, list) else value


class Equal(Case):

    def test_objects_of_different_classes(self):
        objects = [Rules([], [], [{}]), Row(0, ("pay", 1), {("ann", "money", "free"): 1, ("bob", "money", "free"): -1}), Journal(), Ladder("wood"),
                   Order("a", "ann", "buy", "wood", 5, 1), Pool("wood", 1, 1, 1), Lots(), FOUR, RING, Market(RULES), Console(RULES), run(RULES, []),
                   Auction("wood", 5, 5)]
        for at, one in enumerate(objects):
            for to, other in enumerate(objects):
                if at != to:
                    self.assertFalse(one == other)
                    self.assertTrue(one != other)
            for other in [None, 0, "", [], (), {}]:
                self.assertFalse(one == other)


class Limits(Case):

    def test_sixty_facts_with_eight_slips(self):
        rules = Rules(["wood", "iron"], ["oil", "tin"], [{}] + [{"oil": -40 + step, "tin": 40 - step * 3} for step in range(7)])
        members = ["ann", "bob", "cid", "dee", "eve", "fay"]
        facts = [("pay", 0, member, "money", 10 ** 39) for member in members]
        facts += [("trade", 0, members[at % 6], members[(at + 1) % 6], ["wood", "oil", "iron", "tin"][at % 4], 99 - at, 20) for at in range(24)]
        facts += [("slip", 0, [("bust", 6 + at), ("amend", 6 + at, 1), ("price", "oil", 90)]) for at in range(8)]
        facts += [("lend", 0, at % 12, members[at % 6], members[(at + 2) % 6], 400) for at in range(9)] + [("close", day) for day in range(13)]
        self.same(len(facts), 60)
        found = run(rules, facts).things()
        self.assertEqual(sum(value for key, value in found.items() if key[0] == "balance" and key[1][1] == "money" and key[2] == 12), 0)
        self.same(next(iter([key for key in found if key[0] == "settled"]), None), None)
        for call in (final, answers, matters):
            self.raises(ManySlips, {"given": 8}, call, rules, facts, ("price", "oil", 12))
        facts = facts + [("fill", 30 + at, at % 3) for at in range(4)]
        question = ("balance", ("ann", "money", "free"), 12)
        values, told_answers = [], answers(rules, facts, question)
        for filling in list(fillings(rules, facts))[::9]:
            values.append(run(rules, facts + fills_of(filling)).things().get(question))
        self.assertTrue(all(value in told_answers for value in values))
        market = market_of(rules, facts)
        self.same([len(market), market.open_slips(), market.posted().total("money")], [64, [34, 35, 36, 37], 0])

    def test_many_dues(self):
        rules = Rules(["wood"], [], [{}])
        facts = [("pay", 0, "ann", "wood", 7), ("pay", 0, "bob", "money", 100)] + [("trade", 0, "bob", "ann", "wood", 1, 1)] * 20 + [
            ("close", 0), ("close", 1)]
        found = run(rules, facts).things()
        self.same([len([key for key in found if key[0] == word and key[-1] == 1]) for word in ("settled", "standing")], [7, 13])

    def test_long_texts(self):
        text = "\n".join(["pay ann wood 1000000000000000000000000000000000000000"] * 150)
        console = Console(RULES)
        self.same(len(text) // 1000, 8)
        self.same(console.take(text), [None] * 150)
        self.same(console.market().run().journal().balance(("ann", "wood", "free")), 150 * 10 ** 39)
        self.same(len(console.text()), len(text))


class MainStatements(Case):

    def test_what_is_the_same_for_all_fillings_stays(self):
        # What is the same for all fillings is the same behind each of them, one slip after the other.
        for seed in range(30):
            pick = random.Random(seed)
            rules, facts = random_market(seed, slips=2)
            days = len([fact for fact in facts if fact[0] == "close"])
            if not days:
                continue
            keys = list(run(rules, facts).things())
            for question in pick.sample(keys, min(5, len(keys))):
                if final(rules, facts, question) is None:
                    value = answer(rules, facts, question)
                    for filling in list(fillings(rules, facts)):
                        self.same(run(rules, facts + fills_of(filling)).things().get(question), value)

    def test_handing_over_is_the_same_in_any_order(self):
        due = Due(9, [("ann", "bob", "iron", 1)])
        held = RING.with_more("ann", "iron", 2).with_due(due)
        numbers = settled(held)
        rows = [rows_of(1, held.due(number)) for number in numbers]
        self.assertEqual(Journal(rows).cut(), Journal(rows[::-1]).cut())
        self.same(numbers, [1, 2, 3, 4, 9])

    def test_errors_are_market_errors(self):
        # Whatever is told to a market, it answers with a number, None or an error of the package.
        market = Market(RULES)
        for seed in range(300):
            pick = random.Random(seed)
            fact = tuple(pick.choice(["pay", "slip", "fill", 0, 1, "ann", "bob", "wood", "oil", None, [], [("bust", 0)], (), 5]) for _ in range(pick.randrange(7)))
            try:
                market.tell(fact)
            except MarketError:
                continue
            self.same(market.facts()[-1], fact)


if __name__ == "__main__":
    unittest.main()
