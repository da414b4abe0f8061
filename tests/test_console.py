"""The console: its lines, what is traded, taking steps back [105] to [110]."""

import random
import unittest

from evenmarket.console import Console
from evenmarket.errors import BadLine, BadUnit, MarketError, NothingToRedo, NothingToUndo
from evenmarket.facts import Rules
from evenmarket.market import Market
from tests.checks import Case, ODD

RULES = Rules(["wood"], ["oil"], [{}, {"oil": 5}, {"oil": -5}])
# Numbers 0 to 3: two trades, a slip, a payment.
BEFORE = ("order oa ann sell wood 20 2\norder ob bob buy wood 20 2\norder oc cid sell oil 50 1\norder od ann buy oil 50 1\n"
          "slip bust 0 / amend 1 7 / pay bob money -5\npay ann wood 4")
# Lines that are right behind these, with the facts that they tell.
FACT_LINES = [
    ("pay ann wood 5", ("pay", 0, "ann", "wood", 5)), ("pay bob money -7", ("pay", 0, "bob", "money", -7)), ("price oil 99", ("price", 0, "oil", 99)),
    ("lend 0 ann bob 3", ("lend", 0, 0, "ann", "bob", 3)), ("lend 12 ann bob 10", ("lend", 0, 12, "ann", "bob", 10)),
    ("fund ann 2", ("fund", 0, "ann", 2)), ("way ann dearest", ("way", 0, "ann", "dearest")), ("close", ("close", 0)),
    ("queue ann wood 0", ("queue", 0, "ann", "wood", [0])), ("queue bob money 3 0 99", ("queue", 0, "bob", "money", [3, 0, 99])),
    ("slip bust 1", ("slip", 0, [("bust", 1)])), ("slip amend 0 10", ("slip", 0, [("amend", 0, 10)])), ("slip price oil 5", ("slip", 0, [("price", "oil", 5)])),
    ("slip pay ann money -3 / bust 0 / amend 1 9", ("slip", 0, [("pay", "ann", "money", -3), ("bust", 0), ("amend", 1, 9)])),
    ("slip bust 0 / bust 0", ("slip", 0, [("bust", 0), ("bust", 0)])), ("fill 2 0", ("fill", 2, 0)), ("fill 2 2", ("fill", 2, 2)),
    ("fill 2 none", ("fill", 2, None))]
# Lines that trade, right behind two orders that stand.
STANDING = "order sa ann sell wood 30 5\norder sb bob buy wood 10 5 shows 2"
TRADE_LINES = ["order x cid buy wood 31 2", "order x cid buy wood any 2 once most 70", "order x cid sell wood 11 9 shows 3", "drop sa", "less sb 1", "less sa 4",
               "gather oil 50 9", "pool oil zoe 100 11 50", "order x cid buy oil 31 2 whole"]
WRONG_LINES = [
    "", " ", "hello", "pay", "Pay ann wood 5", "pay ann wood x", "pay ann wood 0", "pay ann gold 5", "pay ann oil 5", "pay house wood 5", "pay Ann wood 5",
    "pay ann wood +5", "pay ann wood 5.0", "pay ann wood --5", "pay ann wood -0", "pay ann wood none", "pay ann wood 5,", "price wood 5", "price oil 0", "price oil 100", "price oil -5",
    "price oil any", "price money 5", "lend -1 ann bob 3", "lend 13 ann bob 3", "lend 0 ann ann 3", "lend 0 ann bob 0", "lend ann 0 bob 3", "lend none ann bob 3", "fund ann 0",
    "fund ann -2", "fund house 2", "way ann middle", "way ann First", "way house last", "close 0", "close close", "closes", "queue ann wood", "queue ann oil 1",
    "queue ann wood 1 1", "queue ann wood -1", "queue ann wood x", "queue ann wood none", "queue 1 wood 1", "slip", "slip bust 3", "slip bust 2", "slip bust 9", "slip bust", "slip bust 0 /",
    "slip bust 0/ bust 1", "slip bust 0 / ", "slip / bust 0", "slip bust 0 // bust 1", "slip bust 0 / / bust 1", "slip bust 0 bust 1", "slip trade 0",
    "slip bust 0 / bust 0 / bust 0 / bust 0", "slip amend 0", "slip amend 0 100", "slip amend 0 none", "slip pay ann oil 5", "slip price wood 5", "slip pay ann wood 0",
    "fill", "fill 2", "fill 2 3", "fill 2 -1", "fill 2 None", "fill none 2", "fill 0 0", "fill 9 0", "fill -2 0", "trade ann bob wood 20 3", "trade 0 ann bob wood 20 3",
    "order", "order x", "order x cid buy gold 31 2", "order x cid buy money 31 2", "order x cid buy wood any 2", "order x cid buy wood 31 0", "order x cid buy wood 100 1",
    "order x cid both wood 31 2", "order sa cid buy wood 5 2", "order sb cid buy oil 5 2", "order X cid buy wood 5 2", "order x house buy wood 5 2", "drop", "drop nobody", "drop sa sb", "drop SA",
    "less sa", "less sa 5", "less sa 0", "less sa -1", "less nobody 1", "less sa x", "gather wood 50 9", "gather gold 50 9", "gather money 50 9", "gather oil 0 9", "gather oil 100 9", "gather oil 50 100",
    "gather oil 50 -1", "gather oil any 9", "gather oil 50", "offer x cid buy oil 31 2", "offer x cid buy wood 31 2", "clear oil", "clear wood", "clear gold", "clear", "pool wood zoe 100 11 50",
    "pool gold zoe 100 11 50", "pool oil zoe 0 11 50", "pool oil zoe 10000 11 50", "pool oil zoe 100 100 50", "pool oil zoe 100 11 0", "pool oil house 100 11 50", "pool oil Zoe 100 11 50", "pool oil zoe 100 11",
    "pool oil zoe any 11 50", "show wood", "undo", "redo", "hidden 0", "orders x cid buy oil 5 2", "pay\tann wood 5", "# pay ann wood 5"]


def console_of(text, rules=RULES):
    console = Console(rules)
    console.take(text)
    return console


def state(console):
    """All that a console tells, also behind taking back and doing again; it is as before behind that."""
    told = seen(console)
    for back, on in [("undo", "redo"), ("redo", "undo")]:
        done = 0
        try:
            while True:
                getattr(console, back)()
                done += 1
                told = (*told, seen(console))
        except MarketError:
            pass
        for _ in range(done):
            getattr(console, on)()
    return told


def seen(console):
    rules = console.market().rules()
    return (console.today(), console.market().facts(), console.names(), len(console), [console.shown(unit) for unit in rules.goods() + rules.contracts()],
            console.steps(), console.text())


def facts_behind(console, before):
    return console.market().facts()[before:]


class FactLines(Case):

    def test_right_ones(self):
        for line, fact in FACT_LINES:
            console = console_of(BEFORE)
            before = len(console.market())
            self.same(console.take(text=line), [None])
            self.same(facts_behind(console, before), [fact])
            self.same([console.steps()[-1], len(console), console.today()], [line, 7, 1 if line == "close" else 0])
        market = console_of(BEFORE).market()
        self.same(market.facts(), [("trade", 0, "bob", "ann", "wood", 20, 2), ("trade", 0, "ann", "cid", "oil", 50, 1),
                                   ("slip", 0, [("bust", 0), ("amend", 1, 7), ("pay", "bob", "money", -5)]), ("pay", 0, "ann", "wood", 4)])

    def test_the_day(self):
        console = console_of("close\nclose\npay ann wood 5\nslip pay ann wood 1\nlend 4 ann bob 3\norder a ann sell wood 5 1\norder b bob buy wood 5 1")
        self.same([fact[1] for fact in console.market().facts()], [0, 1, 2, 2, 2, 2])
        self.same(console.market().facts()[4], ("lend", 2, 4, "ann", "bob", 3))
        self.raises(BadLine, {"line": 1}, console.take, "lend 1 ann bob 3")
        self.raises(BadLine, {"line": 1}, console.take, "slip bust 4")
        self.same([console.take("slip bust 5\nclose\nfill 6 0"), console.today()], [[None, None, None], 3])

    def test_thirteen_days(self):
        console = console_of("\n".join(["close"] * 13))
        self.same([console.today(), len(console)], [13, 13])
        for line in ["close", "pay ann wood 1", "price oil 5", "slip price oil 5", "way ann last"]:
            self.raises(BadLine, {"line": 1}, console.take, line)
        # Orders can stand, but nothing can be traded.
        self.same(console.take("order a ann sell wood 5 1"), [[("stands", "a", 1)]])
        self.raises(BadLine, {"line": 1}, console.take, "order b bob buy wood 5 1")
        self.same(console.names(), ["a"])


class WrongLines(Case):

    def refused(self, before, line):
        console = console_of(before)
        told = state(console)
        self.raises(BadLine, {"line": 2}, console.take, "pay dee wood 1\n" + line)
        if line:
            self.raises(BadLine, {"line": 1}, console.take, line)
        self.assertEqual(state(console), told)

    def test_each_one(self):
        for line in WRONG_LINES:
            self.refused(BEFORE + "\n" + STANDING, line)

    def test_a_word_less_or_more_or_a_blank(self):
        for before, lines in [(BEFORE, [line for line, fact in FACT_LINES]), (STANDING, TRADE_LINES), ("gather wood 20 9\noffer sa ann sell wood any 2", [
                "offer x cid buy wood 22 2", "offer x cid buy wood any 2", "clear wood"])]:
            for line in lines:
                # The line itself is right.
                console_of(before).take(line)
                words = line.split(" ")
                for at in range(len(words)):
                    less = " ".join(words[:at] + words[at + 1:])
                    if less and not is_right(before, less):
                        self.refused(before, less)
                    self.refused(before, " ".join(words[:at] + [""] + words[at:]))
                    if words[at].isdigit():
                        for other in ["0" + words[at], "-" + words[at] if words[0] != "pay" and "pay" not in words else "--1", words[at] + ".", "x"]:
                            self.refused(before, " ".join(words[:at] + [other] + words[at + 1:]))
                    if words[at] in ("wood", "oil"):
                        self.refused(before, " ".join(words[:at] + ["gold"] + words[at + 1:]))
                for more in [line + " x", line + " ", " " + line, line + " " + words[-1] if words[0] != "queue" else line + " -1"]:
                    self.refused(before, more)

    def test_lines_with_a_word_less_that_are_right(self):
        met = [line for line in ["order x cid sell wood 11 9", "queue bob money 3 0", "order x cid buy wood any 2 once"] if is_right(STANDING, line)]
        self.same(len(met), 3)

    def test_one_of_several_lines(self):
        rights = ["pay ann wood 5", "order x cid buy wood 31 2", "less sb 1", "gather oil 50 9", "offer y cid buy oil 31 2", "close", "fund ann 1"]
        console = console_of(STANDING)
        self.same(console.take("\n".join(rights)), [None, [("trade", "x", "sa", 30, 2)], None, None, None, None, None])
        for at in range(len(rights) + 1):
            for wrong in ["hello", "", "pay ann wood 0", "drop nobody"]:
                console = console_of(STANDING + "\npay bob wood 9\npay bob wood 8")
                console.undo()
                console.undo()
                told = state(console)
                # The first wrong line counts.
                self.raises(BadLine, {"line": at + 1}, console.take, "\n".join(rights[:at] + [wrong] + rights[at:] + ["hello"]))
                self.assertEqual(state(console), told)
                self.same([console.redo(), console.redo(), console.steps()[-1]], [None, None, "pay bob wood 8"])

    def test_an_empty_text(self):
        console = console_of(STANDING)
        console.undo()
        told = state(console)
        self.same(console.take(""), [])
        self.assertEqual(state(console), told)
        self.same(Console(RULES).take(""), [])
        for text, line in [("\n", 1), ("pay ann wood 1\n", 2), ("\npay ann wood 1", 1), ("pay ann wood 1\n\npay ann wood 1", 2)]:
            self.raises(BadLine, {"line": line}, console.take, text)
            self.assertEqual(state(console), told)


def is_right(before, line):
    try:
        console_of(before).take(line)
    except BadLine:
        return False
    return True


class Ladders(Case):

    def test_events_and_facts(self):
        console = Console(RULES)
        self.same(console.take("order a ann sell wood 20 3 shows 1\norder b bob sell wood 20 2\norder c cid buy wood 25 4"),
                  [[("stands", "a", 3)], [("stands", "b", 2)], [("trade", "c", "a", 20, 1), ("trade", "c", "b", 20, 2), ("trade", "c", "a", 20, 1)]])
        # Each event is a fact of its own, in order.
        self.same(console.market().facts(), [("trade", 0, "cid", "ann", "wood", 20, 1), ("trade", 0, "cid", "bob", "wood", 20, 2),
                                             ("trade", 0, "cid", "ann", "wood", 20, 1)])
        self.same([console.shown("wood"), console.shown(unit="oil"), console.names()], [("ladder", [], [(20, 1, 1)]), ("ladder", [], []), ["a"]])
        # Own orders, whole orders and rests that are dropped make no facts.
        self.same(console.take("order d ann buy wood 20 1\norder e bob sell wood any 9 once\norder f cid buy wood 9 9 whole\norder g cid sell wood 20 1"),
                  [[("dropped", "a", 1, "own"), ("stands", "d", 1)], [("trade", "d", "e", 20, 1), ("dropped", "e", 8, "once")],
                   [("dropped", "f", 9, "whole")], [("stands", "g", 1)]])
        self.same(len(console.market()), 4)
        self.same(console.take("drop g"), [None])
        self.same([console.names(), console.shown("wood"), len(console.market())], [[], ("ladder", [], []), 4])

    def test_less(self):
        console = console_of("order a ann sell wood 20 5 shows 2\nless a 4")
        self.same([console.shown("wood"), console.names()], [("ladder", [], [(20, 1, 1)]), ["a"]])

    def test_units_by_themselves(self):
        console = console_of("order a ann sell wood 20 1\norder b bob buy oil 20 1")
        self.same([console.shown("wood"), console.shown("oil"), console.names(), len(console.market())],
                  [("ladder", [], [(20, 1, 1)]), ("ladder", [(20, 1, 1)], []), ["a", "b"], 0])
        # A name is taken at any unit as long as the order stands.
        for line in ["order a cid buy oil 5 1", "order a cid buy wood 5 1", "order b cid buy wood 5 1 whole", "order a cid buy wood any 1 once"]:
            self.raises(BadLine, {"line": 1}, console.take, line)
        self.same(console.take("order c cid buy wood any 1 once\norder a cid buy oil 5 1"), [[("trade", "c", "a", 20, 1)], [("stands", "a", 1)]])
        # An order that was dropped at once, or traded, leaves its name free.
        self.same(console.take("order c cid buy wood 5 1 once\norder c cid buy wood 5 1"), [[("dropped", "c", 1, "once")], [("stands", "c", 1)]])

    def test_shown_units(self):
        console = Console(RULES)
        for wrong in ODD + ["money", "gold", "house", "ann", "oil ", ("oil",), ["oil"]]:
            self.raises_given(BadUnit, wrong, console.shown, wrong)
        for unit in ["wood", "oil"]:
            self.same(console.shown(unit), ("ladder", [], []))
        self.raises(BadUnit, {"given": "wood"}, Console(Rules([], [], [{}])).shown, "wood")
        console.shown("wood")[1].append(1)
        self.same(console.shown("wood"), ("ladder", [], []))


class Pools(Case):

    def test_beside_a_ladder(self):
        console = console_of("pool wood zoe 100 11 50")
        self.same(console.shown("wood"), ("pool", [], [], 8, 10))
        self.same(console.take("order a ann sell wood 13 2\norder b bob buy wood 15 6\norder c cid sell wood 9 3"), [
            [("stands", "a", 2)], [("pool", "b", 10, 1), ("trade", "b", "a", 13, 2), ("pool", "b", 13, 1), ("stands", "b", 2)],
            [("trade", "b", "c", 15, 2), ("pool", "c", 12, 1)]])
        self.same(console.market().facts(), [
            ("trade", 0, "bob", "zoe", "wood", 10, 1), ("trade", 0, "bob", "ann", "wood", 13, 2), ("trade", 0, "bob", "zoe", "wood", 13, 1),
            ("trade", 0, "bob", "cid", "wood", 15, 2), ("trade", 0, "zoe", "cid", "wood", 12, 1)])
        self.same([console.shown("wood"), console.shown("oil"), console.names()], [("pool", [], [], 10, 13), ("ladder", [], []), []])
        # The pool is not levelled by orders that stand.
        self.same(console.take("order d dee buy wood 12 2\nless d 1\ndrop d"), [[("stands", "d", 2)], None, None])
        self.same(console.shown("wood"), ("pool", [], [], 10, 13))

    def test_refused_wholly(self):
        # Prices of a pool may be above 99, but such a trade cannot be told.
        console = console_of("pool wood zoe 900 9 50\norder a ann sell wood 99 1\norder d dee sell wood 99 2")
        told = state(console)
        self.same(console.shown("wood"), ("pool", [], [(99, 3, 2)], 90, 113))
        self.raises(BadLine, {"line": 1}, console.take, "order b bob buy wood any 9 once")
        self.assertEqual(state(console), told)
        self.same(console.take("order b bob buy wood any 3 once"), [[("trade", "b", "a", 99, 1), ("trade", "b", "d", 99, 2)]])
        # The pool's own member on both sides.
        console = console_of("pool wood zoe 100 11 50\norder a ann sell wood 9 1")
        told = state(console)
        self.raises(BadLine, {"line": 1}, console.take, "order z zoe buy wood 10 2")
        self.assertEqual(state(console), told)
        self.raises(BadLine, {"line": 2}, console.take, "pay ann wood 1\norder z zoe sell wood 1 1")
        self.assertEqual(state(console), told)
        self.same(console.take("order z zoe buy wood 9 2"), [[("trade", "z", "a", 9, 1), ("stands", "z", 1)]])

    def test_where_a_pool_can_be_set(self):
        for before in ["pool wood zoe 100 11 50", "gather wood 20 9", "order a ann sell wood 13 2"]:
            for line in ["pool wood zoe 100 11 50", "pool wood ann 1 1 1", "gather wood 20 9"]:
                console = console_of(before)
                self.raises(BadLine, {"line": 1}, console.take, line)
        console = console_of("order a ann sell wood 13 2\ndrop a\npool wood ann 9999 99 9999\npool oil ann 1 1 1")
        self.same([console.shown("wood"), console.shown("oil")], [("pool", [], [], 99, 103), ("pool", [], [], None, None)])

    def test_a_pool_stays(self):
        console = console_of("pool wood zoe 100 11 50\norder b bob buy wood 10 1\norder c cid buy wood 3 1\nclose")
        self.same([console.shown("wood"), console.names(), console.take("order d dee sell wood any 1 once")],
                  [("pool", [], [], 10, 13), [], [[("pool", "d", 10, 1)]]])
        self.same(console.market().facts(), [("trade", 0, "bob", "zoe", "wood", 10, 1), ("close", 0), ("trade", 1, "zoe", "dee", "wood", 10, 1)])
        self.raises(BadLine, {"line": 1}, console.take, "pool wood ann 100 11 50")


class Auctions(Case):

    def test_gathered_and_cleared(self):
        console = console_of("gather wood 20 9\noffer a ann sell wood any 2\noffer b cid buy wood 22 2")
        self.same([console.shown("wood"), console.names(), len(console.market())], [("auction", 20, 2, 0), ["a", "b"], 0])
        self.same(console.take("clear wood"), [[("cid", "ann", "wood", 20, 2)]])
        self.same([console.shown("wood"), console.names(), console.market().facts()],
                  [("ladder", [], []), [], [("trade", 0, "cid", "ann", "wood", 20, 2)]])
        # It has a ladder again, and the names are free.
        self.same(console.take("order a ann sell wood 20 1"), [[("stands", "a", 1)]])
        self.same(console_of("gather oil 50 9\nclose").take("pool oil zoe 100 11 50"), [None])

    def test_late(self):
        console = console_of("gather wood 50 10\noffer a ann buy wood 30 4\noffer c cid sell wood 20 3\noffer d dee sell wood 20 2")
        self.same([console.take("clear wood"), console.shown("wood"), len(console.market())], [[None], ("auction", 20, 4, -1), 0])
        self.same(console.take("offer e eve sell wood 19 1\nclear wood"), [None, [("ann", "eve", "wood", 20, 1), ("ann", "cid", "wood", 20, 3)]])
        self.same(console.market().facts(), [("trade", 0, "ann", "eve", "wood", 20, 1), ("trade", 0, "ann", "cid", "wood", 20, 3)])
        # Without a clearing price it is put off once, and then cleared without trades.
        console = console_of("gather wood 50 10\noffer a ann buy wood 30 4")
        self.same([console.take("clear wood"), console.take("clear wood"), console.shown("wood"), console.names(), len(console.market())],
                  [[None], [[]], ("ladder", [], []), [], 0])

    def test_no_orders_beside_an_auction(self):
        console = console_of("gather wood 20 9\noffer a ann sell wood any 2\norder o bob buy oil 5 1")
        told = state(console)
        for line in ["order b bob buy wood 22 2", "drop a", "less a 1", "gather wood 20 9", "pool wood zoe 100 11 50", "offer a cid buy wood 22 2",
                     "offer o cid buy wood 22 2", "order a cid buy oil 1 1", "offer b ann buy wood 22 2", "offer b bob both wood 22 2", "offer b bob buy oil 22 2",
                     "offer b bob buy wood 22 13", "offer b bob buy wood 0 1", "offer b bob buy wood none 1", "offer b house buy wood 22 1", "clear oil", "clear"]:
            self.raises(BadLine, {"line": 1}, console.take, line)
            self.assertEqual(state(console), told)

    def test_twelve_orders(self):
        names = "abcdefghijkl"
        console = console_of("gather wood 20 9\n" + "\n".join(f"offer {name} bob buy wood 22 2" for name in names))
        self.same(console.names(), list(names))
        self.raises(BadLine, {"line": 1}, console.take, "offer m bob buy wood 22 2")

    def test_a_refused_clearing(self):
        console = console_of("\n".join(["close"] * 13) + "\ngather wood 20 9\noffer a ann sell wood any 2\noffer b cid buy wood 22 2")
        told = state(console)
        self.raises(BadLine, {"line": 1}, console.take, "clear wood")
        self.assertEqual(state(console), told)

    def test_ended_by_the_close(self):
        console = console_of("gather wood 20 9\noffer a ann sell wood any 2\noffer b cid buy wood 22 2\norder o bob buy oil 5 1\nclose")
        self.same([console.names(), console.shown("wood"), console.shown("oil"), console.market().facts()],
                  [[], ("ladder", [], []), ("ladder", [], []), [("close", 0)]])
        self.raises(BadLine, {"line": 1}, console.take, "clear wood")

    def test_auctions_are_not_shared(self):
        # An auction changes; what was before must not change with it.
        console = console_of("gather wood 50 10\noffer a ann buy wood 30 4")
        self.same(console.take("offer c cid sell wood 20 3\nclear wood"), [None, None])
        console.undo()
        console.undo()
        self.same([console.names(), console.shown("wood")], [["a"], ("auction", None, 0, 0)])
        self.same(console.take("clear wood"), [None])
        self.same(console.take("offer c cid sell wood 20 3\nclear wood"), [None, [("ann", "cid", "wood", 30, 3)]])


class Telling(Case):

    def test_a_market_of_its_own(self):
        console = console_of(BEFORE)
        market = console.market()
        self.assertIsInstance(market, Market)
        self.assertTrue(market.rules() == RULES)
        market.tell(("close", 0))
        market.facts().clear()
        self.same([len(console.market()), console.today()], [4, 0])
        console.steps().clear()
        console.names().append("x")
        self.same([len(console.steps()), console.names(), len(console)], [6, [], 6])

    def test_at_first(self):
        console = Console(rules=RULES)
        self.same([console.today(), len(console.market()), console.names(), len(console), console.steps(), console.text()], [0, 0, [], 0, [], ""])

    def test_text(self):
        console = console_of(BEFORE)
        self.same([console.text(), console.steps()], [BEFORE, BEFORE.split("\n")])

    def test_facts_by_trades_and_by_nothing_else(self):
        for seed in range(40):
            console, facts = Console(RULES), []
            for line, answers in random_steps(random.Random(seed), console, 40):
                told = console.market().facts()
                self.same(told[:len(facts)], facts)
                new = told[len(facts):]
                word = line.split(" ")[0]
                if word in ("order", "clear"):
                    trades = [event for event in answers[0] or [] if word == "clear" or event[0] in ("trade", "pool")]
                    self.same([fact[0] for fact in new], ["trade"] * len(trades))
                    self.same([fact[5:] for fact in new], [event[-2:] for event in trades])
                else:
                    self.same(len(new), 0 if word in ("drop", "less", "gather", "offer", "pool") else 1)
                facts = told
                closed = len([fact for fact in facts if fact[0] == "close"])
                self.same(console.today(), closed)


def random_line(pick):
    member, unit, name = pick.choice(["ann", "bob", "cid"]), pick.choice(["wood", "wood", "oil"]), pick.choice("abcdefgh")
    side, price, amount = pick.choice(["buy", "sell"]), pick.randrange(18, 23), pick.randrange(1, 6)
    return pick.choice([
        f"order {name} {member} {side} {unit} {price} {amount}", f"order {name} {member} {side} {unit} {price} {amount}",
        f"order {name} {member} {side} {unit} {price} {amount + 2} shows 2", f"order {name} {member} {side} {unit} any {amount} once",
        f"order {name} {member} {side} {unit} {price} {amount} whole", f"drop {name}", f"less {name} {amount}", f"gather {unit} {price} 2",
        f"offer {name} {member} {side} {unit} {price} {amount}", f"offer {name} {member} {side} {unit} any {amount}", f"clear {unit}", f"clear {unit}",
        f"pool {unit} {member} {price * 10} 11 50", f"pay {member} money {amount}", f"price oil {price}", f"fund {member} {amount}", "close",
        f"way {member} last", f"queue {member} wood {amount}", f"slip bust {amount} / pay {member} money -3", f"fill {amount} 1", f"fill {amount} none", "hello"])


def random_steps(pick, console, many):
    """Right lines that are taken one by one, with their answers."""
    for _ in range(many):
        line = random_line(pick)
        try:
            answers = console.take(line)
        except BadLine:
            continue
        yield line, answers


class TakingBack(Case):

    def test_undo_and_redo(self):
        console = Console(RULES)
        self.raises(NothingToUndo, {}, console.undo)
        self.raises(NothingToRedo, {}, console.redo)
        states = [seen(console)]
        for line in (BEFORE + "\n" + STANDING + "\nclose\ngather wood 20 9\noffer a ann sell wood any 2\noffer b cid buy wood 22 2\nclear wood").split("\n"):
            console.take(line)
            states.append(seen(console))
        for expected in states[-2::-1]:
            self.same(console.undo(), None)
            self.assertEqual(seen(console), expected)
        self.raises(NothingToUndo, {}, console.undo)
        for expected in states[1:]:
            self.same(console.redo(), None)
            self.assertEqual(seen(console), expected)
        self.raises(NothingToRedo, {}, console.redo)

    def test_a_text_is_taken_back_line_by_line(self):
        console = console_of("pay ann wood 1\npay ann wood 2\npay ann wood 3")
        console.undo()
        self.same(console.steps(), ["pay ann wood 1", "pay ann wood 2"])

    def test_redo_is_lost_by_a_new_line(self):
        console = console_of("pay ann wood 1\npay ann wood 2")
        console.undo()
        self.raises(BadLine, {"line": 2}, console.take, "pay ann wood 3\nhello")
        self.same([console.take(""), console.redo(), console.undo(), console.undo()], [[], None, None, None])
        console.take("pay ann wood 4")
        self.raises(NothingToRedo, {}, console.redo)
        self.same(console.text(), "pay ann wood 4")
        # The very line that was taken back is a new one, too.
        console = console_of("pay ann wood 1\npay ann wood 2")
        console.undo()
        console.undo()
        console.take("pay ann wood 1")
        self.raises(NothingToRedo, {}, console.redo)

    def test_in_every_order(self):
        for seed in range(40):
            pick = random.Random(seed)
            console, at = Console(RULES), 0
            states = [seen(console)]
            for _ in range(60):
                kind = pick.choice(["take", "take", "undo", "redo"])
                if kind == "take":
                    try:
                        console.take(random_line(pick))
                    except BadLine:
                        self.assertEqual(seen(console), states[at])
                        continue
                    at += 1
                    states = states[:at] + [seen(console)]
                elif kind == "undo" and at > 0:
                    console.undo()
                    at -= 1
                elif kind == "undo":
                    self.raises(NothingToUndo, {}, console.undo)
                elif at < len(states) - 1:
                    console.redo()
                    at += 1
                else:
                    self.raises(NothingToRedo, {}, console.redo)
                self.assertEqual(seen(console), states[at])
                self.same(len(console), at)


class Trying(Case):

    def test_what_is_returned(self):
        console = console_of(BEFORE)
        value = []
        self.assertIs(console.tried(act=lambda same: value), value)
        self.assertIs(console.tried(lambda same: same), console)
        self.same([console.tried(len), console.tried(lambda same: None)], [6, None])

    def test_acts_that_change(self):
        for before in [BEFORE, STANDING, "gather wood 50 10\noffer a ann buy wood 30 4\noffer c cid sell wood 20 3", "pool wood zoe 100 11 50"]:
            for text in ["close", "pay ann wood 1", "order x dee buy wood any 1 once\nclose\nclose", "clear wood", "offer d dee sell wood 20 2\nclear wood\nclear wood", ""]:
                for back in range(3):
                    console = console_of(before + "\nfund ann 1\nfund ann 2\nfund ann 3")
                    for _ in range(back):
                        console.undo()
                    told = state(console)
                    if is_right(before, text):
                        # What is returned was told within the call.
                        inside = console.tried(lambda same: (same.take(text), len(same)))
                        self.same(inside[1], len(told[5]) + len(text.split("\n")) * bool(text))
                    else:
                        self.raises(BadLine, {"line": 1}, console.tried, lambda same: same.take(text))
                    self.assertEqual(state(console), told)

    def test_acts_that_take_back(self):
        console = console_of(BEFORE)
        console.undo()
        told = state(console)

        def act(same):
            same.redo()
            for _ in range(6):
                same.undo()
            return len(same), same.market().facts()

        self.same(console.tried(act), (0, []))
        self.assertEqual(state(console), told)
        self.same(console.tried(lambda same: (same.take("close"), same.undo(), same.steps()[-1]))[2], BEFORE.split("\n")[4])
        self.assertEqual(state(console), told)
        self.raises(NothingToRedo, {}, console.tried, lambda same: (same.take("close"), same.redo()))
        self.assertEqual(state(console), told)

    def test_errors_go_on(self):
        class Odd(BaseException):
            pass

        for error in [BadLine(7), MarketError(), KeyError("x"), RuntimeError(), StopIteration(), KeyboardInterrupt(), Odd(), AssertionError()]:
            console = console_of(BEFORE)
            console.undo()
            told = state(console)

            def act(same):
                same.take("close\npay ann wood 1")
                same.undo()
                raise error

            with self.assertRaises(type(error)) as caught:
                console.tried(act)
            self.assertIs(caught.exception, error)
            self.assertEqual(state(console), told)
        self.assertRaises(TypeError, Console(RULES).tried, None)

    def test_within_each_other(self):
        console = console_of(BEFORE)
        console.undo()
        told, inner = state(console), []

        def inside(same):
            same.take("close")
            same.take("pay ann wood 9")
            raise KeyError("inside")

        def act(same):
            same.take("fund ann 5")
            before = state(same)
            try:
                same.tried(inside)
            except KeyError:
                inner.append(state(same) == before)
            inner.append(same.tried(lambda again: again.tried(lambda more: (more.undo(), len(more)))[1] + len(again)))
            return state(same) == before

        self.same([console.tried(act), inner], [True, [True, 5 + 6]])
        self.assertEqual(state(console), told)


class SameTexts(Case):

    def test_however_it_came_there(self):
        for seed in range(60):
            pick = random.Random(seed)
            console = Console(RULES)
            for _ in range(50):
                kind = pick.randrange(6)
                try:
                    if kind == 0:
                        console.undo()
                    elif kind == 1:
                        console.redo()
                    elif kind == 2:
                        console.tried(lambda same: same.take(random_line(pick)))
                    else:
                        console.take("\n".join(random_line(pick) for _ in range(pick.choice([1, 1, 2]))))
                except MarketError:
                    pass
            other = Console(Rules(["wood"], ["oil"], [{}, {"oil": 5}, {"oil": -5}]))
            other.take(console.text())
            self.assertEqual(seen(other), seen(console))
            self.assertEqual(other.market().posted(), console.market().posted())
            self.raises(NothingToRedo, {}, other.redo)
            # What comes next is the same, too.
            for _ in range(6):
                line, told = random_line(pick), []
                for one in (console, other):
                    try:
                        told.append(one.take(line))
                    except BadLine as error:
                        told.append(error.line)
                self.same(told[0], told[1])
                self.assertEqual(seen(other), seen(console))

    def test_line_by_line_or_at_once(self):
        for seed in range(20):
            pick = random.Random(seed)
            console = Console(RULES)
            answers = [answer for line, told in random_steps(pick, console, 40) for answer in told]
            other = Console(RULES)
            self.same(other.take(console.text()), answers)
            self.assertEqual(state(other), state(console))


if __name__ == "__main__":
    unittest.main()
