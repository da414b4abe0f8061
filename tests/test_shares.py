"""Debts, paying, short ones, what helps, afterwards [68] to [72]."""

import itertools
import random
import unittest

from evenmarket.errors import BadAmount, BadName, BadRow
from evenmarket.shares import (BadDebt, NoDebtor, after_paying, brought_down, is_fair, lacking, paying, round_after,
                               row_of, short)
from tests.checks import Case, ODD, RESERVED

NO_INTEGERS = [True, False, None, "1", (), [], {}, [1], (1,), 1.0]
NO_MEMBERS = RESERVED + ["", "Ann", "abcdefghi", "an n", "a1", "ann "]
DEBTS = {("ann", "bob"): 6, ("ann", "cy"): 3, ("bob", "ann"): 4}
CALLS = [row_of, paying, lambda debts, money: round_after(debts, money, None),
         lambda debts, money: is_fair(debts, money, None), short,
         lambda debts, money: brought_down(debts, money, None), lambda debts, money: lacking(debts, money, None),
         after_paying]


def random_debts(pick, most=5, many=4):
    keys = list(itertools.permutations(["ann", "bob", "cy", "dee"], 2))
    debts = {key: pick.randrange(1, most + 1) for key in pick.sample(keys, pick.randrange(0, many + 1))}
    money = {name: pick.randrange(0, most + 1) for name in pick.sample(["ann", "bob", "cy", "eve"], pick.randrange(0, 4))}
    return debts, money


def all_owed(debts):
    owed = {}
    for (debtor, creditor), debt in sorted(debts.items()):
        owed[debtor] = owed.get(debtor, 0) + debt
    return owed


def allowed(debts, money, row, name):
    """The money of a member and all parts of a row that the member gets."""
    owed = all_owed(debts)
    return money.get(name, 0) + sum([row[debtor] * debt // owed[debtor] for (debtor, creditor), debt in debts.items()
                                     if creditor == name])


def fair_rows(debts, money):
    """All fair rows, by a look at all rows of payments."""
    owed = all_owed(debts)
    rows = [dict(zip(owed, numbers)) for numbers in itertools.product(*[range(most + 1) for most in owed.values()])]
    return [row for row in rows
            if all([row[name] == min(owed[name], allowed(debts, money, row, name)) for name in owed])]


class Paying(Case):

    def test_no_debts(self):
        self.same([row_of({}, {}), paying({}, {"ann": 4}), short({}, {}), after_paying({}, {"bob": 4, "ann": 0}),
                   round_after({}, {}, {}), is_fair({}, {}, {}), is_fair({}, {}, {"ann": 0})],
                  [{}, {}, [], ({}, {"ann": 0, "bob": 4}), {}, True, False])

    def test_enough_money(self):
        debts, money = {("bob", "ann"): 4, ("ann", "cy"): 3}, {"bob": 4, "ann": 9}
        self.same([row_of(debts=debts, money=money), paying(debts=debts, money=money), short(debts, money)],
                  [{"ann": 3, "bob": 4}, {("ann", "cy"): 3, ("bob", "ann"): 4}, []])
        self.same(after_paying(debts, money), ({}, {"ann": 10, "bob": 0, "cy": 3}))

    def test_money_that_is_passed_on(self):
        debts = {("ann", "bob"): 5, ("bob", "cy"): 5, ("cy", "dee"): 5}
        self.same([row_of(debts, {"ann": money}) for money in [0, 3, 5, 9]],
                  [{"ann": 0, "bob": 0, "cy": 0}, {"ann": 3, "bob": 3, "cy": 3}, {"ann": 5, "bob": 5, "cy": 5},
                   {"ann": 5, "bob": 5, "cy": 5}])

    def test_rings_without_money(self):
        ring = {("ann", "bob"): 5, ("bob", "cy"): 5, ("cy", "ann"): 5}
        self.same([row_of(ring, {}), short(ring, {}), after_paying(ring, {})],
                  [{"ann": 5, "bob": 5, "cy": 5}, [], ({}, {"ann": 0, "bob": 0, "cy": 0})])
        ring[("bob", "cy")] = 7
        self.same([row_of(ring, {}), short(ring, {})], [{"ann": 5, "bob": 5, "cy": 5}, ["bob"]])
        # All that goes round is drawn away, unit by unit, but what rounding leaves.
        ring[("ann", "dee")] = 1
        self.same(row_of(ring, {}), {"ann": 0, "bob": 0, "cy": 0})
        debts = {("ann", "bob"): 999, ("bob", "ann"): 999, ("ann", "cy"): 999, ("cy", "dee"): 1}
        self.same(row_of(debts, {}), {"ann": 0, "bob": 0, "cy": 0})

    def test_parts_are_rounded_down_and_the_rest_stays(self):
        debts = {("ann", "bob"): 1, ("ann", "cy"): 1, ("ann", "dee"): 1}
        self.same([list(paying(debts, {"ann": money}).values()) for money in range(5)],
                  [[0, 0, 0], [0, 0, 0], [0, 0, 0], [1, 1, 1], [1, 1, 1]])
        self.same([row_of(debts, {"ann": 2}), after_paying(debts, {"ann": 2})],
                  [{"ann": 2}, (debts, {"ann": 2, "bob": 0, "cy": 0, "dee": 0})])

    def test_the_order_of_keys(self):
        debts = {("bob", "cy"): 1, ("bob", "ann"): 4, ("ann", "bob"): 1}
        self.same([list(row_of(debts, {})), list(paying(debts, {})), list(round_after(debts, {}, {"bob": 0, "ann": 0}))],
                  [["ann", "bob"], [("ann", "bob"), ("bob", "ann"), ("bob", "cy")], ["ann", "bob"]])
        left, money = after_paying(debts, {"zoe": 1, "eve": 0, "ann": 1})
        self.same([list(left), list(money)], [[("bob", "ann"), ("bob", "cy")], ["ann", "bob", "cy", "eve", "zoe"]])

    def test_the_greatest_fair_row_of_all(self):
        for seed in range(250):
            debts, money = random_debts(random.Random(seed))
            rows = fair_rows(debts, money)
            greatest = {name: max(row[name] for row in rows) for name in all_owed(debts)}
            self.assertIn(greatest, rows)
            self.same(row_of(debts, money), greatest)
            owed = all_owed(debts)
            self.same(paying(debts, money), {(debtor, creditor): greatest[debtor] * debts[(debtor, creditor)] // owed[debtor]
                                             for debtor, creditor in sorted(debts)})
            for row in rows:
                self.assertIs(is_fair(debts, money, row), True)
            for numbers in itertools.product(*[range(most + 1) for most in owed.values()]):
                row = dict(zip(owed, numbers))
                self.assertIs(is_fair(debts, money, row), row in rows)

    def test_great_debts(self):
        pick = random.Random(3)
        names = ["ann", "bob", "cy", "dee", "eve", "fay"]
        for _ in range(20):
            debts = {key: pick.randrange(1, 1000) for key in itertools.permutations(names, 2) if pick.randrange(3)}
            money = {name: pick.choice([0, pick.randrange(0, 500)]) for name in names}
            row = row_of(debts, money)
            self.assertIs(is_fair(debts, money, row), True)
            for _ in range(6):
                name = pick.choice(list(row))
                more = {**row, name: row[name] + 1}
                self.assertIs(is_fair(debts, money, more), False)

    def test_arguments_stay(self):
        debts, money = dict(DEBTS), {"ann": 2}
        for call in (row_of, paying, after_paying):
            call(debts, money)
        lacking(debts, money, "ann")
        self.same([debts, money], [DEBTS, {"ann": 2}])


class Rounds(Case):

    def test_round_after(self):
        self.same([round_after(debts=DEBTS, money={"ann": 2}, row={"bob": bob, "ann": ann})
                   for ann, bob in [(9, 4), (0, 0), (6, 4), (5, 1), (1, 3)]],
                  [{"ann": 6, "bob": 4}, {"ann": 2, "bob": 0}, {"ann": 6, "bob": 4}, {"ann": 3, "bob": 3},
                   {"ann": 5, "bob": 0}])

    def test_rounds_end_at_the_greatest_fair_row(self):
        for seed in range(150):
            debts, money = random_debts(random.Random(seed), most=20, many=8)
            row = all_owed(debts)
            lower = round_after(debts, money, row)
            while lower != row:
                self.assertTrue(all([lower[name] <= row[name] for name in row]))
                self.same(lower, {name: min(all_owed(debts)[name], allowed(debts, money, row, name)) for name in row})
                row, lower = lower, round_after(debts, money, lower)
            self.same(row, row_of(debts, money))

    def test_values_that_are_no_row(self):
        good = {"ann": 6, "bob": 4}
        self.assertIs(is_fair(DEBTS, {"ann": 2}, value=good), True)
        for wrong in ODD + [{"ann": 6}, {"bob": 4}, {**good, "cy": 0}, {**good, "zoe": 0}, {"ann": 6, "cy": 4}, {**good, "ann": 10},
                            {**good, "ann": -1}, {**good, "bob": 5}, {**good, "bob": True}, {**good, "ann": None},
                            {**good, "ann": "6"}, {**good, "ann": [6]}, {**good, "ann": 6.0}, [("ann", 6), ("bob", 4)],
                            ["ann", "bob"], ("ann", "bob"), "ann", {"ann": 6, ("bob",): 4}]:
            self.raises_given(BadRow, wrong, round_after, DEBTS, {"ann": 2}, wrong)
            self.assertIs(is_fair(DEBTS, {"ann": 2}, wrong), False)
        self.assertIs(is_fair(DEBTS, {"ann": 2}, {"bob": 4, "ann": 6}), True)
        # A payment otherwise.
        for wrong in [{"ann": 5, "bob": 4}, {"ann": 6, "bob": 3}, {"ann": 7, "bob": 4}, {"ann": 9, "bob": 4}]:
            self.assertIs(is_fair(DEBTS, {"ann": 2}, wrong), False)
        self.assertIs(is_fair({("ann", "bob"): 1}, {"ann": 1}, {"ann": 1}), True)
        self.assertIs(is_fair({("ann", "bob"): 1}, {"ann": 1}, {"ann": True}), False)
        self.assertIs(is_fair({("ann", "bob"): 1}, {}, {"ann": False}), False)


class ShortOnes(Case):

    def test_short(self):
        self.same([short(DEBTS, {"ann": money}) for money in [0, 4, 5, 9]], [["ann", "bob"], ["ann"], [], []])
        self.same(short({("bob", "cy"): 2, ("ann", "cy"): 1}, {"cy": 9}), ["ann", "bob"])

    def test_brought_down(self):
        debts = {("ann", "bob"): 5, ("bob", "cy"): 5, ("cy", "dee"): 8, ("eve", "dee"): 1}
        self.same([brought_down(debts, {"cy": 3}, name) for name in ["ann", "bob", "cy", "eve"]],
                  [["bob", "cy"], ["cy"], [], []])
        self.same([brought_down(debts=debts, money={}, member=name) for name in ["ann", "bob", "cy", "eve"]],
                  [["bob"], [], [], []])
        # Who pays all brings nobody down.
        self.same(brought_down(debts, {"ann": 5, "bob": 0, "cy": 2}, "ann"), [])

    def test_against_more_money(self):
        for seed in range(250):
            debts, money = random_debts(random.Random(seed), most=9, many=8)
            owed = all_owed(debts)
            row = row_of(debts, money)
            self.same(short(debts, money), [name for name in owed if row[name] < owed[name]])
            for member in owed:
                helped = row_of(debts, {**money, member: money.get(member, 0) + owed[member]})
                self.assertTrue(all([helped[name] >= row[name] for name in row]))
                self.same(brought_down(debts, money, member),
                          [name for name in owed if name != member and row[name] < owed[name] == helped[name]])

    def test_no_debtor(self):
        for wrong in ODD + ["cy", "zoe", "Ann", ("ann", "bob"), ["ann"], "house"]:
            self.raises_given(NoDebtor, wrong, brought_down, DEBTS, {}, wrong)
            self.raises_given(NoDebtor, wrong, lacking, DEBTS, {}, wrong)
        self.raises(NoDebtor, {"given": "ann"}, lacking, {}, {"ann": 1}, "ann")


class Lacking(Case):

    def test_lacking(self):
        self.same([lacking(DEBTS, {"ann": money}, "ann") for money in [0, 2, 5, 6, 99]], [5, 3, 0, 0, 0])
        self.same([lacking(debts=DEBTS, money={"bob": bob}, member="bob") for bob in [0, 2, 3, 4, 5]], [2, 0, 0, 0, 0])

    def test_the_least_money_and_one_less(self):
        for seed in range(250):
            debts, money = random_debts(random.Random(seed), most=12, many=9)
            owed = all_owed(debts)
            for member in owed:
                least = lacking(debts, money, member)
                pays = []
                for more in [least - 1, least, least + 1]:
                    if more >= 0:
                        row = row_of(debts, {**money, member: money.get(member, 0) + more})
                        pays.append(row[member] == owed[member])
                self.same(pays, [False, True, True] if least else [True, True])


class Afterwards(Case):

    def test_after_paying(self):
        self.same(after_paying(debts=DEBTS, money={"zoe": 7, "ann": 2}),
                  ({("ann", "bob"): 2, ("ann", "cy"): 1}, {"ann": 0, "bob": 0, "cy": 2, "zoe": 7}))

    def test_what_it_says(self):
        for seed in range(250):
            debts, money = random_debts(random.Random(seed), most=12, many=9)
            parts = paying(debts, money)
            left, behind = after_paying(debts, money)
            members = sorted({name for key in debts for name in key} | set(money))
            self.same(left, {key: debts[key] - parts[key] for key in sorted(debts) if debts[key] > parts[key]})
            self.same(behind, {name: money.get(name, 0) + sum(parts[key] for key in parts if key[1] == name)
                               - sum(parts[key] for key in parts if key[0] == name) for name in members})
            self.assertEqual(sum(behind.values()), sum(money.values()))
            self.assertTrue(all([one >= 0 for one in behind.values()]))
            for name in short(debts, money):
                self.assertLess(behind[name], len([key for key in debts if key[0] == name]))


class Faults(Case):

    def test_keys_of_debts(self):
        for key in ([(name, "bob") for name in NO_MEMBERS] + [("ann", name) for name in NO_MEMBERS] + [("ann", "ann")]):
            for call in CALLS:
                self.raises(BadDebt, {"given": key}, call, {key: 0}, {"Ann": -1})
                self.raises(BadDebt, {"given": key}, call, {("zz", "a"): 1, key: None, ("zz", "b"): 1}, {})

    def test_debts(self):
        for wrong in NO_INTEGERS + [0, -1, -10 ** 30]:
            for call in CALLS:
                self.raises_given(BadAmount, wrong, call, {("ann", "bob"): wrong}, {"Ann": -1})

    def test_money(self):
        for name in NO_MEMBERS:
            for call in CALLS:
                self.raises(BadName, {"given": name}, call, DEBTS, {name: -1, "zz": -2})
        for wrong in NO_INTEGERS + [-1, -10 ** 30]:
            for call in CALLS:
                self.raises_given(BadAmount, wrong, call, DEBTS, {"ann": wrong})
                self.raises_given(BadAmount, wrong, call, {}, {"zoe": 0, "ann": wrong})

    def test_several_faults_at_once(self):
        for call in CALLS:
            self.raises(BadDebt, {"given": ("bob", "bob")}, call,
                        {("cy", "house"): 1, ("bob", "bob"): 1, ("ann", "bob"): 0}, {})
            self.raises(BadAmount, {"given": -7}, call, {("bob", "ann"): -8, ("ann", "cy"): -7, ("ann", "bob"): 1}, {"": 1})
            self.raises(BadName, {"given": "A"}, call, DEBTS, {"house": 1, "A": 1, "ann": -1})
            self.raises(BadAmount, {"given": -2}, call, DEBTS, {"cy": -1, "bob": -2, "ann": 0})

    def test_what_comes_behind_them(self):
        for call in [lambda debts, money: round_after(debts, money, {}), lambda debts, money: lacking(debts, money, "zoe"),
                     lambda debts, money: brought_down(debts, money, "zoe")]:
            self.raises(BadAmount, {"given": -1}, call, DEBTS, {"ann": -1})


if __name__ == "__main__":
    unittest.main()
