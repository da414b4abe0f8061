"""The range of the cost, gains, late truths about lots [52] to [54]."""

import itertools
import random
import unittest

from evenmarket.errors import BadAmount
from evenmarket.gains import cost_range, gains, turned
from evenmarket.lots import BadEvent, BadIndex, Lots, NotThere
from tests.checks import Case, ODD
from tests.test_lots import NO_INTEGERS, WORDS, random_lots

EVENTS = [("came", 1, 3, 10), ("came", 2, 2, 9), ("went", 3, 2, 12, "first"), ("went", 4, 2, 12, "last")]
NO_EVENTS = ODD + [
    "came", ("came",), ("came", 2), ("came", 2, 3), ("came", 2, 3, 10, 0), ["came", 2, 3, 10], ("Came", 2, 3, 10),
    ("comes", 2, 3, 10), (None, 2, 3, 10), (["came"], 2, 3, 10), ("went", 2, 1, 1), ("went", 2, 1, 1, "first", 1),
    ["went", 2, 1, 1, "first"], ("gone", 2, 1, 1, "first"), ("came", 2, 1, 1, "first"), ("went", 2, 1, "first"),
    ("went", 2, 1, "first", 1), ("fill", 2, 1, 1, "first"), {0: "came", 1: 2}]


def all_ways(lots, amount):
    """The costs of all ways in which an amount can go."""
    there = [range(lot[1] - lot[3] + 1) for lot in lots.lots()]
    for units in itertools.product(*there):
        if sum(units) == amount:
            way = [(at, many) for at, many in enumerate(units) if many]
            yield lots.went(amount, way)[1]


class CostRange(Case):

    def check(self, lots, amount):
        found = cost_range(lots, amount)
        costs = list(all_ways(lots, amount))
        self.same([type(found), [cost for cost, way in found]], [tuple, [min(costs), max(costs)]])
        for one in found:
            cost, way = one
            self.same([type(one), type(way), way], [tuple, list, sorted(way)])
            self.same(lots.went(amount, way)[1], cost)

    def test_against_all_ways(self):
        for seed in range(60):
            pick = random.Random(seed)
            lots = random_lots(pick, most=4, units=5)
            for amount in range(1, lots.units() + 1):
                self.check(lots, amount)

    def test_the_most_lots(self):
        lots = Lots([(0, 12, cost, 0) for cost in [100, 7, 59, 0, 31]])
        found = cost_range(lots=lots, amount=30)
        self.same([cost for cost, way in found], [22, 174])
        self.same([lots.went(30, way)[1] for cost, way in found], [22, 174])
        self.same([cost for cost, way in cost_range(lots, 60)], [197, 197])

    def test_the_three_words_need_not_be_among_them(self):
        lots = Lots([(0, 3, 2, 0), (0, 3, 2, 0), (0, 3, 1, 0)])
        costs = [lots.went(2, word)[1] for word in WORDS]
        self.same([[cost for cost, way in cost_range(lots, 2)], costs], [[0, 1], [1, 0, 1]])
        lots = Lots([(0, 4, 3, 0), (0, 4, 3, 0)])
        self.same([[cost for cost, way in cost_range(lots, 2)], [lots.went(2, word)[1] for word in WORDS]],
                  [[0, 1], [1, 1, 1]])

    def test_lots_of_which_units_are_gone(self):
        # Two units of the first lot cost 1 and 2, those of the other one 1 and 1.
        lots = Lots([(0, 3, 5, 1), (0, 3, 4, 0), (1, 2, 9, 2)])
        self.same([cost for cost, way in cost_range(lots, 2)], [2, 4])
        self.check(lots, 3)

    def test_errors(self):
        lots = Lots().came(1, 3, 10)
        for wrong in [0, -1] + NO_INTEGERS:
            self.raises_given(BadAmount, wrong, cost_range, lots, wrong)
        self.raises(NotThere, {"given": 3}, cost_range, lots, 4)
        self.raises(NotThere, {"given": 2}, cost_range, lots.went(1, "first")[0], 10 ** 40)
        self.raises(NotThere, {"given": 0}, cost_range, Lots(), 1)

    def test_new_lists(self):
        lots = Lots().came(1, 3, 10)
        cost_range(lots, 1)[0][1].clear()
        self.same(cost_range(lots, 1), ((3, [(0, 1)]), (3, [(0, 1)])))
        self.same(lots.lots(), [(1, 3, 10, 0)])


class Gains(Case):

    def test_no_events(self):
        for events in [[], ()]:
            lots, gone = gains(events)
            self.assertTrue(lots == Lots())
            self.same(gone, [])

    def test_gains(self):
        lots, gone = gains(events=tuple(EVENTS))
        self.same([lots.lots(), gone],
                  [[(1, 3, 10, 2), (2, 2, 9, 2)], [(2, 6, 6, [(0, 2, 6)]), (3, 9, 3, [(1, 2, 9)])]])
        lots, gone = gains(EVENTS[:1] + [("went", 1, 1, 0, [(0, 1)]), ("came", 1, 1, 0), ("went", 9, 3, 5, "last")])
        self.same([lots.lots(), gone],
                  [[(1, 3, 10, 3), (1, 1, 0, 1)], [(1, 3, -3, [(0, 1, 3)]), (3, 7, -2, [(0, 2, 7), (1, 1, 0)])]])

    def test_items_that_are_no_events(self):
        for wrong in NO_EVENTS:
            for events in [[wrong], [wrong, None], (wrong,)]:
                self.raises(BadEvent, {"index": 0}, gains, events)
            self.raises(BadEvent, {"index": 2}, gains, EVENTS[:2] + [wrong] + EVENTS[2:])
            self.raises(BadEvent, {"index": 4}, gains, EVENTS + [wrong])

    def test_parts_that_do_not_fit(self):
        for wrong in [-1] + NO_INTEGERS:
            for event in [("came", wrong, 1, 1), ("came", 2, wrong, 1), ("came", 2, 1, wrong),
                          ("went", wrong, 1, 1, "first"), ("went", 2, wrong, 1, "first"), ("went", 2, 1, wrong, "first"),
                          ("went", 2, 1, 1, wrong), ("went", 2, 1, 1, [(0, wrong)]), ("went", 2, 1, 1, [(wrong, 1)])]:
                self.raises(BadEvent, {"index": 2}, gains, EVENTS[:2] + [event])
        for event in [("came", 2, 0, 1), ("went", 2, 0, 1, "first"), ("went", 2, 6, 1, "first"), ("went", 2, 1, 1, "some"),
                      ("went", 2, 1, 1, [(0, 2)]), ("went", 2, 4, 1, [(0, 4)]), ("went", 2, 1, 1, [(2, 1)]),
                      ("went", 2, 2, 1, [(0, 1), (0, 1)])]:
            self.raises(BadEvent, {"index": 2}, gains, EVENTS[:2] + [event])

    def test_days_never_fall(self):
        for event in [("came", 1, 1, 1), ("went", 1, 1, 1, "first"), ("came", 0, 1, 1), ("came", -1, 1, 1)]:
            self.raises(BadEvent, {"index": 2}, gains, EVENTS[:2] + [event])
        # The lots alone would let this one come.
        self.raises(BadEvent, {"index": 3}, gains, EVENTS[:3] + [("came", 2, 1, 1)])
        self.raises(BadEvent, {"index": 3}, gains, EVENTS[:3] + [("went", 2, 1, 1, "first")])
        self.same(len(gains(EVENTS[:3] + [("came", 3, 1, 1)])[0].lots()), 3)

    def test_the_first_fault_counts(self):
        self.raises(BadEvent, {"index": 1}, gains, [EVENTS[0], ("went", 1, 9, 9, "first"), None])
        self.raises(BadEvent, {"index": 1}, gains, [EVENTS[1], ("came", 1, 9, 9), ("came", 1, 9, 9)])


class Turned(Case):

    def test_the_money_alone_turns_nothing(self):
        for money in [0, 11, 10 ** 20]:
            self.same(turned(EVENTS, 2, ("went", 3, 2, money, "first")), [])

    def test_costs_and_parts(self):
        self.same(turned(events=EVENTS, at=0, event=("came", 1, 3, 13)), [2])
        self.same(turned(EVENTS, 0, ("came", 1, 2, 10)), [2])
        self.same(turned(EVENTS, 0, ("came", 1, 4, 12)), [])
        self.same(turned(tuple(EVENTS), 0, ("came", 1, 4, 13)), [])
        self.same(turned(EVENTS, 0, ("came", 1, 5, 10)), [2])
        self.same(turned(EVENTS, 1, ("came", 2, 1, 9)), [3])
        self.same(turned(EVENTS, 2, ("went", 3, 2, 12, "last")), [3])
        self.same(turned(EVENTS, 2, ("went", 3, 3, 12, "first")), [])
        # The cost stays what it was, the parts do not.
        events = [("came", 0, 2, 2), ("came", 0, 2, 2), ("went", 0, 1, 0, "first"), ("went", 0, 1, 0, "first")]
        self.same(turned(events, 2, ("went", 0, 1, 0, "last")), [])
        self.same(turned(events, 2, ("went", 0, 2, 0, "first")), [3])
        # The parts stay what they were, but for their cost.
        self.same(turned(events, 0, ("came", 0, 2, 4)), [2, 3])

    def test_the_event_itself_is_not_among_them(self):
        self.same(turned(EVENTS, 3, ("went", 4, 1, 12, "first")), [])

    def test_events_ahead_of_it_are_not_among_them(self):
        events = EVENTS[:3] + [("came", 3, 1, 1), ("went", 3, 1, 1, "last")]
        self.same(turned(events, 3, ("came", 3, 1, 2)), [4])

    def test_errors_in_order(self):
        for wrong in [-1, 4, 10 ** 30] + NO_INTEGERS:
            self.raises_given(BadIndex, wrong, turned, EVENTS, wrong, None)
            self.raises_given(BadIndex, wrong, turned, [None, *EVENTS[:3]], wrong, None)
        self.raises(BadIndex, {"given": 0}, turned, [], 0, None)
        self.raises(BadEvent, {"index": 3}, turned, EVENTS[:3] + [None], 1, None)
        self.raises(BadEvent, {"index": 1}, turned, [EVENTS[1], ("came", 1, 1, 1)], 0, ("came", 0, 1, 1))
        for wrong in NO_EVENTS + [("came", 1, 2, 9), ("came", 3, 2, 9), ("went", 2, 1, 1, "first"), ("came", True, 2, 9)]:
            self.raises(BadEvent, {"index": 1}, turned, EVENTS, 1, wrong)
        for wrong in NO_EVENTS + [("went", 3, 0, 1, "first"), ("went", 3, 6, 1, "first"), ("went", 3, 1, -1, "first")]:
            self.raises(BadEvent, {"index": 2}, turned, EVENTS, 2, wrong)
        # The event is right, but a later one cannot go any more.
        self.raises(BadEvent, {"index": 3}, turned, EVENTS, 2, ("went", 3, 4, 1, "first"))
        self.raises(BadEvent, {"index": 3}, turned, EVENTS[:3] + [("went", 4, 2, 12, [(1, 2)])], 1, ("came", 2, 1, 9))

    def test_against_gains(self):
        for seed in range(300):
            pick = random.Random(seed)
            events = self.random_events(pick)
            at = pick.randrange(len(events))
            event = events[at]
            if event[0] == "came":
                event = (*event[:2], pick.randrange(1, 9), pick.randrange(0, 30))
            else:
                event = (*event[:2], pick.randrange(1, 5), pick.randrange(0, 30), pick.choice(WORDS))
            changed = list(events)
            changed[at] = event
            try:
                behind = gains(changed)[1]
            except BadEvent as error:
                self.raises(BadEvent, {"index": error.index}, turned, events, at, event)
                continue
            before = gains(events)[1]
            self.same(turned(events, at, event),
                      [one[0] for one, other in zip(before, behind)
                       if one[0] != at and (one[1] != other[1] or one[3] != other[3])])

    def random_events(self, pick):
        events, day, units = [], 0, 0
        for _ in range(pick.randrange(1, 10)):
            day += pick.randrange(0, 2)
            if units == 0 or pick.randrange(3) == 0:
                events.append(("came", day, pick.randrange(1, 9), pick.randrange(0, 30)))
                units += events[-1][2]
            else:
                amount = pick.randrange(1, min(units, 4) + 1)
                events.append(("went", day, amount, pick.randrange(0, 30), pick.choice(WORDS)))
                units -= amount
        return events


if __name__ == "__main__":
    unittest.main()
