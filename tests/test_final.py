"""What a late truth reaches, what is final, which facts can change places [98] to [100]."""

import copy
import inspect
import itertools
import random
import unittest

from evenmarket.errors import BadDay, MarketError
from evenmarket.facts import BadFact, BadFacts, BadQuestion, DayClosed, Filled, ManySlips, NoDeed, NoSlip, NoTrade, Rules
from evenmarket.final import answer, answers, chain, change_places, fillings, final, matters, reach
from evenmarket.run import run
from evenmarket.telling import check, numbered
from evenmarket.told import told_of
from tests.checks import Case, ODD, RESERVED, WRONG_NAMES
from tests.markets import MEMBERS, random_fact, random_market
from tests.test_positions import NO_INTEGERS

RULES = Rules(["wood"], ["oil"], [{}, {"oil": 5}, {"oil": -5}])
FACTS = [("pay", 0, "ann", "wood", 2), ("slip", 0, [("pay", "ann", "wood", 1), ("pay", "bob", "money", 50)]), ("pay", 0, "bob", "money", 60),
         ("trade", 0, "bob", "ann", "wood", 20, 3), ("close", 0), ("close", 1)]
# A trade of a good, one of a contract, a loan and a payment, at numbers 0 to 3, and one closed day.
SHORT = [("trade", 0, "bob", "ann", "wood", 20, 3), ("trade", 0, "bob", "ann", "oil", 20, 3), ("lend", 0, 4, "ann", "bob", 5),
         ("pay", 0, "ann", "wood", 1), ("close", 0)]
QUESTIONS = [("price", "oil", 0), ("position", "ann", 0), ("called", "zoe", 0), ("closing", "bob", 0), ("balance", ("ann", "money", "fund"), 0),
             ("balance", ("house", "wood", "free"), 0), ("balance", ("outside", "money", "free"), 0), ("standing", 0, 0), ("settled", 0, 0),
             ("queue", "zoe", "money", 0), ("queue", "ann", "wood", 0), ("owed", 2, 0), ("paid", "ann", "zoe", 0), ("lots", "ann", "wood", 0)]
NO_MEMBERS = WRONG_NAMES + RESERVED
NO_QUESTIONS = [wrong for wrong in ODD] + [
    ("price", "wood", 0), ("price", "money", 0), ("price", 0, "oil"), ("lots", "ann", "money", 0), ("lots", "ann", "oil", 0), ("lots", "ann", 0),
    ("queue", "ann", "oil", 0), ("queue", ("ann", "wood"), 0), ("queue", "ann", 0), ("paid", "ann", "ann", 0), ("paid", "ann", 0), ("Price", "oil", 0),
    ("prices", "oil", 0), ("", "oil", 0), (["price"], "oil", 0), ("hidden", 0), ("price", 0), ("price",), (0, "oil", "price"), ("trade", 0, 0)]
NO_QUESTIONS += [("standing", number, 0) for number in [1, 2, 3, 4, 5, 10 ** 30, -1, "0", True, None, 0.0, (0,), [0]]]
NO_QUESTIONS += [("settled", number, 0) for number in [1, 2, 3, 4, -1, False]] + [("owed", number, 0) for number in [0, 1, 3, 4, -2, "2", 2.0]]
NO_QUESTIONS += [(word, wrong, 0) for word in ["position", "called", "closing", "price"] for wrong in NO_MEMBERS]
NO_QUESTIONS += [("paid", wrong, "ann", 0) for wrong in NO_MEMBERS] + [("paid", "ann", wrong, 0) for wrong in NO_MEMBERS]
NO_QUESTIONS += [("lots", wrong, "wood", 0) for wrong in NO_MEMBERS] + [("queue", wrong, "wood", 0) for wrong in NO_MEMBERS]
NO_QUESTIONS += [("balance", wrong, 0) for wrong in [
    "ann", ("ann", "wood"), ["ann", "wood", "free"], ("ann", "oil", "free"), ("ann", "gold", "free"), ("ann", "wood", "cover"), ("money", "wood", "free"),
    ("Ann", "wood", "free"), ("ann", "money", "Free"), ("ann", "money", "free", 0), None, (), ("house", "oil", "free"), ("ann", ["wood"], "free")]]
NO_QUESTIONS += [(*question[:-1], wrong) for question in QUESTIONS for wrong in NO_INTEGERS + [-1, 1, 12, 13, 10 ** 30]]
NO_QUESTIONS += [list(question) for question in QUESTIONS] + [question + (0,) for question in QUESTIONS] + [question[:-1] for question in QUESTIONS]
SLIP = ("slip", 0, [("price", "oil", 60), ("price", "oil", 40), ("price", "oil", 60)])


def fills_of(filling):
    return [("fill", number, index) for number, index in filling.items()]


def fillings_by_words(rules, facts):
    slips = told_of(rules, facts).open_slips()
    facts_of = dict(numbered(rules, facts))
    choices = [[None, *range(len(facts_of[slip][2]))] for slip in slips]
    found = [dict(zip(slips, row)) for row in itertools.product(*choices)]
    return sorted(found, key=lambda one: (sum(index is not None for index in one.values()),
                                          [-1 if index is None else index for index in one.values()]))


def questions_of(pick, rules, facts, many=12):
    """Some questions, some of them about things that are there in some filling."""
    days = len([fact for fact in facts if fact[0] == "close"])
    if days == 0:
        return []
    found = list(run(rules, facts).things())
    for filling in fillings_by_words(rules, facts)[:8]:
        found += list(run(rules, facts + fills_of(filling)).things())
    found += [("position", "ann", 0), ("called", "bob", days - 1), ("paid", "dee", "ann", 0), ("balance", ("ann", "money", "fund"), 0)]
    return pick.sample(found, min(many, len(found)))


def late_market(seed, many=4):
    """A market with some open slips, often about days that are closed since."""
    pick = random.Random(seed)
    rules, facts = random_market(seed, most=36)
    while len(told_of(rules, facts).open_slips()) > many:
        facts = facts + [("fill", told_of(rules, facts).open_slips()[0], None)]
    days = len([fact for fact in facts if fact[0] == "close"])
    for day in range(days, pick.randrange(1, 4)):
        facts = facts + [("close", day)]
    return pick, rules, facts


class Reach(Case):

    def test_a_payment(self):
        self.same(reach(rules=RULES, facts=FACTS, fill=("fill", 1, 1))[:2],
                  [("balance", ("bob", "money", "free"), 0), ("balance", ("bob", "money", "free"), 1)])
        self.same(chain(RULES, FACTS, ("fill", 1, 0), ("settled", 3, 1)), [("balance", ("ann", "wood", "free"), 0), ("settled", 3, 1)])
        self.same(chain(rules=RULES, facts=FACTS, fill=("fill", 1, 0), thing=("settled", 3, 1)),
                  chain(RULES, FACTS, ("fill", 1, 0), ("settled", 3, 1)))
        self.same(chain(RULES, FACTS, ("fill", 1, 1), ("settled", 3, 1)), None)
        self.same(chain(RULES, FACTS, ("fill", 1, 0), ("balance", ("ann", "wood", "free"), 0)), [("balance", ("ann", "wood", "free"), 0)])

    def test_nothing_is_reached(self):
        self.same(reach(RULES, FACTS, ("fill", 1, None)), [])
        # Things of days that are not closed, and deeds that change nothing.
        self.same(reach(RULES, FACTS[:4], ("fill", 1, 0)), [])
        self.same(reach(RULES, [("price", 0, "oil", 60), SLIP, ("price", 0, "oil", 50), ("close", 0)], ("fill", 1, 1)), [])
        self.same(reach(RULES, [("close", 0), ("slip", 1, [("pay", "ann", "wood", 1)])], ("fill", 1, 0)), [])

    def test_against_the_two_runs(self):
        lengths = set()
        for seed in range(100):
            pick, rules, facts = late_market(seed)
            before, copied = run(rules, facts).things(), copy.deepcopy(facts)
            for slip in told_of(rules, facts).open_slips():
                for index in [None, *range(len(dict(numbered(rules, facts))[slip][2]))]:
                    fill = ("fill", slip, index)
                    behind = run(rules, facts + [fill]).things()
                    found = reach(rules, facts, fill)
                    self.same(found, sorted(key for key in set(before) | set(behind) if before.get(key) != behind.get(key)))
                    self.assertTrue(index is not None or found == [])
                    slip_day = dict(numbered(rules, facts))[slip][1]
                    self.assertTrue(all(key[-1] >= slip_day for key in found))
                    for thing in pick.sample(found, min(6, len(found))):
                        way = chain(rules, facts, fill, thing)
                        first = min(key[-1] for key in found)
                        self.same([key[-1] for key in way], list(range(first, thing[-1] + 1)))
                        self.same(way[-1], thing)
                        for key in way[:-1]:
                            self.same(key, min(one for one in found if one[-1] == key[-1]))
                        lengths.add(len(way))
                    for thing in pick.sample(sorted(before), min(6, len(before))):
                        if thing not in found:
                            self.assertIsNone(chain(rules, facts, fill, thing))
            self.same(facts, copied)
        self.assertTrue({1, 2, 3} <= lengths)

    def test_errors_in_order(self):
        for call in [lambda *told: reach(*told), lambda *told: chain(*told, None)]:
            for wrong in ODD + [("close", 0)]:
                if wrong not in ([], ()):
                    self.raises_given(BadFacts, wrong, call, RULES, wrong, None)
            for wrong in ODD + [("close", 2), ("fill", 1), ("fill", 1, -1), ("fill", True, 0), ["fill", 1, 0], ("fill", 1, 0, 0),
                                ("pay", 2, "ann", "wood", 1)]:
                self.raises_given(BadFact, wrong, call, RULES, FACTS, wrong)
            for number in [0, 2, 4, 6, 10 ** 30]:
                self.raises(NoSlip, {"given": number}, call, RULES, FACTS, ("fill", number, 7))
            self.raises(Filled, {"given": 1}, call, RULES, FACTS + [("fill", 1, None)], ("fill", 1, 7))
            self.raises(NoDeed, {"given": 2}, call, RULES, FACTS, ("fill", 1, 2))
        for wrong in NO_QUESTIONS:
            self.raises_given(BadQuestion, wrong, chain, RULES, SHORT + [("slip", 1, [("price", "oil", 5)])], ("fill", 5, 0), wrong)
        # A question about what is not reached is none the less one.
        for question in QUESTIONS:
            self.assertIsNone(chain(RULES, SHORT + [("slip", 1, [("price", "oil", 5)])], ("fill", 5, 0), question))


class Questions(Case):

    def test_each_form(self):
        found = run(RULES, SHORT).things()
        for question in QUESTIONS:
            self.same(answer(rules=RULES, facts=SHORT, question=question), found.get(question))
        self.assertEqual([question for question in QUESTIONS if question in found],
                         [question for question in QUESTIONS if answer(RULES, SHORT, question) is not None])
        self.same([answer(RULES, SHORT, ("queue", "ann", "wood", 0)), answer(RULES, SHORT, ("standing", 0, 0)),
                   answer(RULES, SHORT, ("closing", "bob", 0)), answer(RULES, SHORT, ("price", "oil", 0))], [(0,), 60, None, 50])
        # A trade that is told of an open day can be asked for, too, and one that is bust.
        self.assertIsNone(answer(RULES, SHORT + [("trade", 3, "ann", "bob", "wood", 1, 1)], ("settled", 5, 0)))
        bust = SHORT[:4] + [("slip", 0, [("bust", 0)]), ("fill", 4, 0), ("close", 0)]
        self.assertIsNone(answer(RULES, bust, ("standing", 0, 0)))

    def test_no_questions(self):
        for call in [answer, final, answers, matters]:
            for wrong in NO_QUESTIONS:
                self.raises_given(BadQuestion, wrong, call, RULES, SHORT, wrong)
        bare = Rules([], [], [{}])
        for question in QUESTIONS:
            if "wood" in str(question) or question[0] in ("price", "standing", "settled", "owed"):
                self.raises(BadQuestion, {"given": question}, answer, bare, [("close", 0)], question)
            else:
                self.assertIsNone(answer(bare, [("close", 0)], question))
        for question in QUESTIONS:
            self.raises(BadQuestion, {"given": question}, answer, RULES, SHORT[:-1], question)

    def test_errors_in_order(self):
        many = SHORT + [("slip", 1, [("price", "oil", 5)])] * 5
        for call in [answer, final, answers, matters]:
            for wrong in [wrong for wrong in ODD if wrong not in ([], ())] + [[("close", 1)]]:
                self.raises_given(BadFacts, wrong, call, RULES, wrong, ("price", "oil", 0))
                self.raises_given(BadFacts, wrong, call, RULES, wrong, None)
            self.raises(BadQuestion, {"given": ("price", "tin", 0)}, call, RULES, many, ("price", "tin", 0))
            if call is not answer:
                self.raises(ManySlips, {"given": 5}, call, RULES, many, ("price", "oil", 0))
                self.raises(ManySlips, {"given": 8}, call, RULES, many + many[-3:], ("price", "oil", 0))
                call(RULES, many + [("fill", 6, None)], ("price", "oil", 0))
        self.same(answer(RULES, many, ("price", "oil", 0)), 50)
        self.same(final(rules=RULES, facts=SHORT, question=("price", "oil", 0)), None)
        self.same([answers(rules=RULES, facts=SHORT, question=("price", "oil", 0)), matters(rules=RULES, facts=SHORT, question=("price", "oil", 0))],
                  [[50], []])


class Fillings(Case):

    def test_in_order(self):
        self.same(list(fillings(rules=RULES, facts=FACTS)), [{1: None}, {1: 0}, {1: 1}])
        self.same(list(fillings(RULES, [])), [{}])
        two = [("slip", 0, [("price", "oil", 5), ("price", "oil", 6)]), ("slip", 0, [("price", "oil", 7)])]
        self.same(list(fillings(RULES, two)), [{0: None, 1: None}, {0: None, 1: 0}, {0: 0, 1: None}, {0: 1, 1: None}, {0: 0, 1: 0}, {0: 1, 1: 0}])
        for facts in [[SLIP] * 4, [SLIP, FACTS[0], SLIP, two[1], ("close", 0), ("slip", 1, SLIP[2]), ("fill", 2, 1)], [two[1]] * 4]:
            self.same(list(fillings(RULES, facts)), fillings_by_words(RULES, facts))

    def test_a_generator(self):
        self.assertTrue(inspect.isgeneratorfunction(fillings))
        told = fillings(RULES, FACTS)
        next(told).clear()
        self.same(list(told), [{1: 0}, {1: 1}])
        # Errors come with the first filling.
        self.raises(ManySlips, {"given": 5}, next, fillings(RULES, [SLIP] * 5))
        self.raises(BadFacts, {"given": None}, next, fillings(RULES, None))


class Finals(Case):

    def test_the_example(self):
        self.same([answer(RULES, FACTS, ("standing", 3, 1)), final(RULES, FACTS, ("standing", 3, 1)), final(RULES, FACTS, ("standing", 3, 0))],
                  [60, {1: 0}, None])
        self.same([answers(RULES, FACTS, ("balance", ("bob", "money", "free"), 1)), matters(RULES, FACTS, ("price", "oil", 0))],
                  [[60, None, 110], []])

    def test_slips_that_matter_only_together(self):
        # Either payment is enough for the trade to settle; of two prices the later slip counts.
        facts = [("trade", 0, "bob", "ann", "wood", 20, 3), ("pay", 0, "bob", "money", 60), ("slip", 0, [("pay", "ann", "wood", 3)]),
                 ("slip", 0, [("pay", "ann", "wood", 3)]), ("slip", 0, [("price", "oil", 44)]), ("slip", 0, [("price", "oil", 44), ("price", "oil", 50)]),
                 ("close", 0), ("close", 1)]
        self.same([final(RULES, facts, ("settled", 0, 1)), answers(RULES, facts, ("settled", 0, 1)), matters(RULES, facts, ("settled", 0, 1))],
                  [{2: None, 3: 0, 4: None, 5: None}, [None, 60], [2, 3]])
        self.same([final(RULES, facts, ("price", "oil", 1)), answers(RULES, facts, ("price", "oil", 1)), matters(RULES, facts, ("price", "oil", 1))],
                  [{2: None, 3: None, 4: None, 5: 0}, [50, 44], [4, 5]])
        # A bust trade does not settle, whatever else comes: only then the others do not matter.
        bust = facts[:2] + [("slip", 0, [("bust", 0)])] + facts[3:]
        self.same(matters(RULES, bust, ("settled", 0, 1)), [2, 3])
        self.same(matters(RULES, bust + [("fill", 2, 0)], ("settled", 0, 1)), [])
        self.same(final(RULES, bust + [("fill", 2, 0)], ("settled", 0, 1)), None)

    def test_against_all_fillings(self):
        met, counts = set(), set()
        for seed in range(70):
            pick, rules, facts = late_market(seed, many=pick_many(seed))
            rows = fillings_by_words(rules, facts)
            self.same(list(fillings(rules, facts)), rows)
            runs = [run(rules, facts + fills_of(filling)).things() for filling in rows]
            counts.add(len(told_of(rules, facts).open_slips()))
            for question in questions_of(pick, rules, facts):
                values = [found.get(question) for found in runs]
                self.same(answer(rules, facts, question), run(rules, facts).things().get(question))
                self.same(values[0], answer(rules, facts, question))
                others = [filling for filling, value in zip(rows, values) if value != values[0]]
                self.same(final(rules, facts, question), others[0] if others else None)
                different = [value for at, value in enumerate(values) if value not in values[:at]]
                self.same(answers(rules, facts, question), different)
                slips = [slip for slip in rows[0] if any(
                    one != other and {**one, slip: 0} == {**other, slip: 0} and values[at] != values[to]
                    for at, one in enumerate(rows) for to, other in enumerate(rows[:at]))] if len(rows) <= 64 else matters(rules, facts, question)
                self.same(matters(rules, facts, question), slips)
                self.assertEqual(bool(others), bool(slips))
                met.add((len(different), len(slips)))
        self.assertEqual(counts, {0, 1, 2, 3, 4})
        self.assertTrue({(1, 0), (2, 1), (2, 2), (3, 1)} <= met)

    def test_final_answers_stay(self):
        for seed in range(60):
            pick, rules, facts = late_market(seed, many=2)
            kept = {question: answer(rules, facts, question) for question in questions_of(pick, rules, facts)
                    if final(rules, facts, question) is None}
            told = told_of(rules, facts)
            for _ in range(25):
                fact = random_fact(pick, rules, told)
                if fact[0] != "slip" or len(told.open_slips()) < 3:
                    try:
                        told.tell(fact)
                    except MarketError:
                        pass
            for question, value in kept.items():
                self.same([answer(rules, told.facts(), question), final(rules, told.facts(), question)], [value, None])


def pick_many(seed):
    return [0, 1, 2, 4, 3][seed % 5]


class Places(Case):

    def test_some_that_can_and_some_that_cannot(self):
        facts = [("slip", 0, [("pay", "ann", "wood", 1)]), ("slip", 0, [("price", "oil", 40), ("price", "oil", 60)]), ("price", 0, "oil", 45)]
        for first, second, expected in [
                (("fill", 0, 0), ("fill", 1, 0), True), (("fill", 0, 0), ("fill", 0, 0), False), (("fill", 0, 0), ("fill", 0, None), False),
                (("fill", 0, 0), ("close", 0), True), (("fill", 1, None), ("close", 0), True), (("close", 0), ("close", 0), False),
                (("pay", 0, "ann", "wood", 1), ("close", 0), False), (("pay", 1, "ann", "wood", 1), ("close", 0), True),
                (("price", 0, "oil", 5), ("price", 0, "oil", 6), True), (("slip", 0, [("price", "oil", 5)]), ("fill", 0, 0), True),
                (("slip", 0, [("price", "oil", 5)]), ("close", 0), False), (("fund", 12, "ann", 5), ("close", 0), True),
                (("lend", 0, 0, "ann", "bob", 1), ("lend", 0, 0, "bob", "ann", 1), True), (("way", 0, "ann", "last"), ("close", 0), False)]:
            self.assertIs(change_places(rules=RULES, facts=facts, first=first, second=second), expected)
            self.assertIs(change_places(RULES, facts, second, first), expected)

    def test_things_that_become_others(self):
        # The numbers of facts of a day can be seen only when it is closed, and then nothing can be told of it.
        day = [("trade", 0, "ann", "bob", "wood", 5, 1), ("trade", 0, "bob", "ann", "wood", 5, 2)]
        self.assertIs(change_places(RULES, [], *day), True)
        self.assertIs(change_places(RULES, [("close", 0)], ("pay", 1, "ann", "wood", 1), ("close", 1)), False)

    def test_errors_in_order(self):
        facts = [("slip", 0, [("pay", "ann", "wood", 1)]), ("close", 0)]
        good = ("pay", 1, "ann", "wood", 1)
        for wrong in [None, 1, [("close", 1)]]:
            self.raises_given(BadFacts, wrong, change_places, RULES, wrong, None, None)
        for error, given, fact in [(BadFact, None, None), (NoSlip, 5, ("fill", 5, 0)), (NoDeed, 1, ("fill", 0, 1)), (BadDay, 0, ("close", 0)),
                                   (BadDay, 2, ("close", 2)), (DayClosed, 0, ("fund", 0, "ann", 1)), (NoTrade, 0, ("slip", 1, [("bust", 0)]))]:
            self.raises(error, {"given": given}, change_places, RULES, facts, fact, None)
            self.raises(error, {"given": given}, change_places, RULES, facts, fact, good)
            self.raises(error, {"given": given}, change_places, RULES, facts, good, fact)
        self.raises(Filled, {"given": 0}, change_places, RULES, facts + [("fill", 0, 0)], good, ("fill", 0, 0))
        # The second one is looked at behind the facts alone.
        self.raises(NoTrade, {"given": 2}, change_places, RULES, facts, ("trade", 1, "ann", "bob", "oil", 1, 1), ("slip", 1, [("bust", 2)]))
        self.raises(BadDay, {"given": 2}, change_places, RULES, facts, ("close", 1), ("close", 2))

    def test_against_both_orders(self):
        met = {}
        for seed in range(150):
            pick = random.Random(seed)
            rules, facts = random_market(seed, most=24)
            told = told_of(rules, facts)
            for _ in range(10):
                one, other = random_fact(pick, rules, told), random_fact(pick, rules, told)
                try:
                    check(rules, facts, one)
                    check(rules, facts, other)
                except MarketError:
                    self.assertRaises(MarketError, change_places, rules, facts, one, other)
                    continue
                try:
                    expected = run(rules, facts + [one, other]).things() == run(rules, facts + [other, one]).things()
                except BadFacts:
                    expected = False
                self.assertIs(change_places(rules, facts, one, other), expected)
                kinds = {one[0], other[0]}
                if kinds <= {"fill", "close"} and (one[0] != other[0] or one[1] != other[1]):
                    self.assertIs(expected, True)
                met.setdefault(tuple(sorted([one[0], other[0]])), set()).add(expected)
        self.assertEqual([met[("close", kind)] for kind in ["close", "fill"]], [{False}, {True}])
        self.assertEqual([met[tuple(sorted(["close", kind]))] for kind in ["pay", "trade", "slip", "lend"]], [{True, False}] * 4)
        self.assertEqual(met[("pay", "pay")], {True})
        self.assertEqual(len(MEMBERS), 4)


if __name__ == "__main__":
    unittest.main()
