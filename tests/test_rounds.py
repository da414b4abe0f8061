"""Rounds, what they tell, the steps between them [76] to [78]."""

import itertools
import random
import unittest

from evenmarket.dues import BadDues, BadHoldings, BadQueues, Due, Duplicate, NoDue, NotTogether, TooMany, due_of
from evenmarket.errors import BadAmount
from evenmarket.greatest import settled
from evenmarket.rounds import Round
from tests.checks import Case, ODD, RESERVED, WRONG_NAMES
from tests.test_dues import NO_INTEGERS, random_due

ONE, TWO, THREE = (due_of(1, ("bob", "ann", "iron", 3, 2)), due_of(2, ("cid", "bob", "iron", 3, 2)),
                   due_of(3, ("ann", "cid", "iron", 3, 2)))
FOUR = Due(4, [("ann", "bob", "iron", 1)])
RING = Round({("dee", "money"): 4}, [ONE, TWO, THREE, FOUR])
TWELVE = [Due(number, [("ann", "bob", "iron", 1)]) for number in range(12)]
WRONG_KEYS = [wrong for wrong in WRONG_NAMES if not isinstance(wrong, (list, dict))]
# No value of these is the number of a due of the ring.
STRANGERS = ODD + NO_INTEGERS + [0, 5, -1, 10 ** 30, "1", ONE]


def random_round(pick, most=5, great=5):
    """A round with holdings above and below 0 and queues in told orders."""
    owners = ["ann", "bob", "cy"]
    dues = [random_due(pick, number, owners) for number in pick.sample(range(20), pick.randrange(0, most + 1))]
    holdings = {(owner, unit): pick.randrange(-2, great) for owner in owners for unit in ["money", "iron", "wood"]
                if pick.randrange(2)}
    queues = {}
    for owner in owners:
        for unit in ["money", "iron", "wood"]:
            queue = [due.number for due in dues if (owner, unit) in due.doors()]
            if pick.randrange(2):
                queues[(owner, unit)] = pick.sample(queue, len(queue))
    return Round(holdings, dues, pick.choice([None, queues, queues]))


def told(held):
    """Everything that a round tells."""
    owners = ["ann", "bob", "cy", "cid", "dee", "eve", "zoe"]
    units = ["money", "iron", "wood", "gold"]
    return (held.numbers(), len(held), [held.due(number).text() for number in held.numbers()], held.doors(), held.owners(),
            [(owner, unit, held.queue(owner, unit), held.holds(owner, unit)) for owner in owners for unit in units])


class Making(Case):

    def test_an_empty_round(self):
        for held in [Round({}, []), Round({}, (), {}), Round(holdings={}, dues=[], queues=None),
                     Round({("ann", "iron"): 0}, [], {("ann", "iron"): [], ("bob", "money"): ()})]:
            self.same([held.numbers(), len(held), held.doors(), held.owners(), held.queue("ann", "iron"),
                       held.holds("ann", "iron"), settled(held)], [[], 0, [], [], [], 0, []])
            self.assertTrue(held == Round({}, []))

    def test_holdings(self):
        good = ("ann", "iron")
        keys = ([(wrong, "iron") for wrong in WRONG_KEYS + RESERVED] + [("ann", wrong) for wrong in WRONG_KEYS + ["house", "outside"]]
                + [("ann",), ("ann", "iron", "free"), "ann", 1, None, (), ("iron", ("ann",))])
        wrongs = [wrong for wrong in ODD if wrong not in ({}, {"ann": 1})] + [{key: 1} for key in keys]
        wrongs += [{good: 1, key: 1} for key in keys] + [{good: wrong} for wrong in NO_INTEGERS]
        wrongs += [{("bob", "money"): 1, good: wrong} for wrong in NO_INTEGERS] + [[(good, 1)], {"ann": 1}, [good]]
        for wrong in wrongs:
            self.raises_given(BadHoldings, wrong, Round, wrong, None, 5)
            self.raises_given(BadHoldings, wrong, Round, wrong, [ONE, ONE])
        held = Round({good: -10 ** 40, ("bob", "money"): 7, ("cy", "wood"): 0}, [])
        self.same([held.holds(owner="ann", unit="iron"), held.holds("bob", "money"), held.holds("cy", "wood"),
                   held.holds("ann", "money"), held.holds("zoe", "iron")], [-10 ** 40, 7, 0, 0, 0])

    def test_dues(self):
        wrongs = [wrong for wrong in ODD if wrong not in ([], ())] + [ONE, [None], [ONE, None], [None, ONE], [ONE.text()],
                  {1: ONE}, [[ONE]], TWELVE + [Due(12, [("ann", "bob", "iron", 1)])], TWELVE + TWELVE]
        for wrong in wrongs:
            self.raises_given(BadDues, wrong, Round, {}, wrong, 5)
        self.same(Round({}, TWELVE).numbers(), list(range(12)))
        self.same(Round({}, tuple(TWELVE[::-1])).numbers(), list(range(12)))

    def test_duplicates(self):
        for dues, number in [([ONE, ONE], 1), ([ONE, TWO, Due(2, FOUR.legs), Due(1, FOUR.legs)], 2),
                             ([TWO, ONE, Due(1, FOUR.legs), Due(2, FOUR.legs)], 1), ([FOUR, TWO, ONE, FOUR, TWO], 4)]:
            self.raises(Duplicate, {"given": number}, Round, {}, dues, 5)
            self.raises(Duplicate, {"given": number}, Round, {}, dues, None)

    def test_queues(self):
        held = Round({}, [FOUR, ONE, TWO, THREE], {("ann", "iron"): [4, 1], ("zoe", "iron"): [], ("bob", "money"): (1,)})
        self.same([held.queue(owner="ann", unit="iron"), held.queue("ann", "money"), held.queue("bob", "money"),
                   held.queue("zoe", "iron"), held.queue("dee", "money")], [[4, 1], [3], [1], [], []])
        self.same(Round({}, [FOUR, ONE], None).queue("ann", "iron"), [1, 4])
        self.same(Round({}, [FOUR, ONE], {}).queue("ann", "iron"), [1, 4])

    def test_wrong_queues(self):
        good = ("ann", "iron")
        wrongs = [wrong for wrong in ODD if wrong not in (None, {}, {"ann": 1})] + [[], [1, 4], [(good, [1, 4])]]
        wrongs += [{good: wrong} for wrong in ODD + [[1], [4], [1, 4, 4], [1, 4, 2], [1, 1], [True, 4], [1, "4"], [1, None], "14",
                                                     {1: 1, 4: 4}, 14, [1, [4]], [1, 4, 5]]]
        wrongs += [{good: [4, 1], ("bob", "iron"): []}, {("zoe", "iron"): [1]}, {("ann", "wood"): [1]}, {("bob", "iron"): [1]}]
        wrongs += [{key: []} for key in [("house", "iron"), ("Ann", "iron"), ("ann", "house"), ("ann",), "ann", None, 1,
                                         ("ann", "iron", "free"), ("outside", "money"), ("money", "money")]]
        for wrong in wrongs:
            self.raises_given(BadQueues, wrong, Round, {}, [ONE, TWO, FOUR], wrong)

    def test_rounds_never_change(self):
        holdings, dues, queues = {("ann", "iron"): 1}, [ONE, FOUR], {("ann", "iron"): [4, 1]}
        held = Round(holdings, dues, queues)
        holdings[("ann", "iron")] = 7
        holdings[("zoe", "iron")] = 7
        dues.clear()
        queues[("ann", "iron")].reverse()
        queues.clear()
        for parts in [held.numbers(), held.doors(), held.queue("ann", "iron"), held.owners()]:
            parts.clear()
        self.assertTrue(held == Round({("ann", "iron"): 1}, [ONE, FOUR], {("ann", "iron"): [4, 1]}))
        self.same(told(held), told(Round({("ann", "iron"): 1}, [ONE, FOUR], {("ann", "iron"): [4, 1]})))


class Telling(Case):

    def test_what_a_round_tells(self):
        self.same([RING.numbers(), len(RING), RING.owners()], [[1, 2, 3, 4], 4, ["ann", "bob", "cid", "dee"]])
        self.same(RING.doors(), [("ann", "iron"), ("ann", "money"), ("bob", "iron"), ("bob", "money"), ("cid", "iron"),
                                 ("cid", "money")])
        held = Round({("zoe", "iron"): -1, ("eve", "iron"): 0, ("ann", "wood"): 3}, [Due(7, [("cy", "bob", "money", 1)])])
        self.same([held.owners(), held.doors(), held.numbers()], [["ann", "bob", "cy", "zoe"], [("cy", "money")], [7]])

    def test_due(self):
        self.same([RING.due(number=2).text(), RING.due(4).text()], [TWO.text(), FOUR.text()])
        for wrong in STRANGERS:
            self.raises_given(NoDue, wrong, RING.due, wrong)
            self.raises_given(NoDue, wrong, RING.without, wrong)
        self.raises(NoDue, {"given": 0}, Round({}, []).due, 0)
        self.raises(NoDue, {"given": False}, Round({}, TWELVE).due, False)

    def test_equal(self):
        holdings = {("dee", "money"): 4}
        for other in [Round(holdings, [FOUR, THREE, ONE, TWO]), Round({**holdings, ("ann", "iron"): 0}, [ONE, TWO, THREE, FOUR]),
                      Round(holdings, [ONE, TWO, THREE, FOUR], {("ann", "iron"): [1, 4], ("zoe", "iron"): []})]:
            self.assertTrue(RING == other and not RING != other)
        for other in [Round({}, [ONE, TWO, THREE, FOUR]), Round({("dee", "money"): 5}, [ONE, TWO, THREE, FOUR]),
                      Round({("eve", "money"): 4}, [ONE, TWO, THREE, FOUR]), Round(holdings, [ONE, TWO, THREE]),
                      Round({**holdings, ("ann", "iron"): 1}, [ONE, TWO, THREE, FOUR]),
                      Round(holdings, [ONE, TWO, THREE, Due(4, [("ann", "bob", "iron", 2)])]),
                      Round(holdings, [ONE, TWO, THREE, Due(5, FOUR.legs)]),
                      Round(holdings, [ONE, TWO, THREE, FOUR], {("ann", "iron"): [4, 1]}), None, [1, 2, 3, 4], "RING"]:
            self.assertFalse(RING == other)
            self.assertTrue(RING != other)


class Steps(Case):

    def test_with_due(self):
        before = told(RING)
        held = RING.with_due(due=Due(0, [("ann", "cid", "iron", 1), ("zoe", "ann", "wood", 2)]))
        self.same([held.numbers(), held.queue("ann", "iron"), held.queue("zoe", "wood"), held.queue("ann", "money")],
                  [[0, 1, 2, 3, 4], [1, 4, 0], [0], [3]])
        self.assertTrue(held == Round({("dee", "money"): 4}, [held.due(0), ONE, TWO, THREE, FOUR], {("ann", "iron"): [1, 4, 0]}))
        self.same(told(RING), before)
        self.same(Round({}, [ONE, FOUR], {("ann", "iron"): [4, 1]}).with_due(Due(2, [("ann", "bob", "iron", 1)]))
                  .queue("ann", "iron"), [4, 1, 2])
        self.assertTrue(Round({}, []).with_due(ONE) == Round({}, [ONE]))

    def test_with_due_errors_in_order(self):
        for wrong in ODD + [1, "1", [ONE], ONE.text(), RING]:
            self.raises_given(BadDues, wrong, RING.with_due, wrong)
            self.raises_given(BadDues, wrong, Round({}, TWELVE).with_due, wrong)
        self.raises(Duplicate, {"given": 4}, RING.with_due, Due(4, [("zoe", "dee", "iron", 1)]))
        self.raises(Duplicate, {"given": 11}, Round({}, TWELVE).with_due, Due(11, [("zoe", "dee", "iron", 1)]))
        self.raises(TooMany, {"count": 13}, Round({}, TWELVE).with_due, Due(12, [("zoe", "dee", "iron", 1)]))
        self.same(len(Round({}, TWELVE[:11]).with_due(TWELVE[11])), 12)

    def test_without(self):
        before = told(RING)
        held = RING.without(number=1)
        self.assertTrue(held == Round({("dee", "money"): 4}, [TWO, THREE, FOUR]))
        self.same([held.numbers(), held.queue("ann", "iron"), held.queue("bob", "money"), held.holds("dee", "money")],
                  [[2, 3, 4], [4], [], 4])
        self.same(told(RING), before)
        dues = [Due(number, [("ann", "bob", "iron", 1)]) for number in range(4)]
        held = Round({}, dues, {("ann", "iron"): [3, 0, 2, 1]})
        self.same([held.without(0).queue("ann", "iron"), held.without(3).queue("ann", "iron"),
                   held.without(1).without(2).queue("ann", "iron")], [[3, 2, 1], [0, 2, 1], [3, 0]])

    def test_with_more(self):
        before = told(RING)
        held = RING.with_more(owner="ann", unit="iron", amount=1).with_more("dee", "money", 10 ** 40).with_more("zoe", "gold", 0)
        self.assertTrue(held == Round({("ann", "iron"): 1, ("dee", "money"): 4 + 10 ** 40}, [ONE, TWO, THREE, FOUR]))
        self.same([held.holds("ann", "iron"), held.owners()], [1, ["ann", "bob", "cid", "dee"]])
        self.same(told(RING), before)
        self.assertTrue(Round({("ann", "iron"): -3}, []).with_more("ann", "iron", 3) == Round({}, []))
        for wrong in NO_INTEGERS + ODD + [-1, -10 ** 30]:
            self.raises_given(BadAmount, wrong, RING.with_more, "ann", "iron", wrong)
        told_order = Round({}, [ONE, FOUR], {("ann", "iron"): [4, 1]})
        self.same(told_order.with_more("ann", "iron", 1).queue("ann", "iron"), [4, 1])

    def test_after(self):
        before = told(RING)
        held = RING.after(numbers=[3, 1, 2])
        self.assertTrue(held == Round({("dee", "money"): 4}, [FOUR]))
        self.same([held.numbers(), held.queue("ann", "iron"), held.queue("cid", "money")], [[4], [4], []])
        self.same(told(RING), before)
        self.assertTrue(RING.after([]) == RING and RING.after(()) == RING)
        held = Round({("ann", "iron"): 3, ("bob", "money"): 9}, [ONE, FOUR], {("ann", "iron"): [4, 1]})
        self.assertTrue(held.after((4,)) == Round({("ann", "iron"): 2, ("bob", "money"): 9, ("bob", "iron"): 1}, [ONE]))
        self.assertTrue(held.after([1, 4]) == Round({("bob", "money"): 3, ("bob", "iron"): 3, ("ann", "money"): 6}, []))
        self.assertTrue(Round({("ann", "iron"): 1, ("bob", "iron"): -1}, [FOUR]).after([4]) == Round({}, []))

    def test_not_together(self):
        for wrong in [wrong for wrong in ODD if wrong not in ([], ())] + [
                [4], [1, 2], [1, 2, 3, 4], [1, 2, 3, 3], [1, 2, 3, 5], [True, 2, 3], [1, 2, "3"], "123", {1: 1, 2: 2, 3: 3}, 1]:
            self.raises_given(NotTogether, wrong, RING.after, wrong)

    def test_against_plain_words(self):
        for seed in range(200):
            held = random_round(random.Random(seed))
            before = told(held)
            numbers = settled(held)
            behind = held.after(numbers)
            self.same(behind.numbers(), [number for number in held.numbers() if number not in numbers])
            for owner, unit in itertools.product(["ann", "bob", "cy"], ["money", "iron", "wood"]):
                dues = [held.due(number) for number in numbers]
                self.same(behind.holds(owner, unit), held.holds(owner, unit) + sum(
                    leg[3] * ((leg[1] == owner) - (leg[0] == owner)) for due in dues for leg in due.legs if leg[2] == unit))
                self.same(behind.queue(owner, unit), [number for number in held.queue(owner, unit) if number not in numbers])
            self.same(told(held), before)


if __name__ == "__main__":
    unittest.main()
