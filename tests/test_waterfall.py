"""The waterfall, the next unit [66], [67]."""

import random
import unittest

from evenmarket.errors import BadAmount
from evenmarket.waterfall import bearer, waterfall
from tests.checks import Case, ODD

NO_INTEGERS = [True, False, None, "1", (), [], {}, [1], (1,), 1.0]


def unit_by_unit(lack, house, funds):
    """What [66] says, one unit after the other; the bearers in order."""
    funds = {name: funds[name] for name in sorted(funds)}
    bearers = []
    for _ in range(lack):
        if house > 0:
            bearers.append("house")
            house -= 1
            continue
        turns = bearers_of_turn(bearers, funds)
        if turns:
            bearers.append(turns)
            funds[turns] -= 1
        else:
            bearers.append("house")
            house -= 1
    return house, funds, bearers


def bearers_of_turn(bearers, funds):
    """The first fund that has something behind the last one that bore, or from the start; None if all are empty."""
    able = [name for name in funds if funds[name] > 0]
    last = bearers[-1] if bearers and bearers[-1] != "house" else ""
    later = [name for name in able if name > last]
    return (later or able or [None])[0]


class Waterfall(Case):

    def test_a_lack_of_0(self):
        self.same([waterfall(0, 0, {}), waterfall(0, 5, {"bob": 2, "ann": 0}), waterfall(0, -5, {"ann": 2})],
                  [(0, {}), (5, {"ann": 0, "bob": 2}), (-5, {"ann": 2})])

    def test_the_house_alone(self):
        self.same([waterfall(lack=3, house=5, funds={"ann": 2}), waterfall(5, 5, {"ann": 2}), waterfall(5, 5, {}),
                   waterfall(6, 5, {}), waterfall(6, 5, {"ann": 0}), waterfall(2, -3, {"ann": 0}), waterfall(1, 0, {})],
                  [(2, {"ann": 2}), (0, {"ann": 2}), (0, {}), (-1, {}), (-1, {"ann": 0}), (-5, {"ann": 0}), (-1, {})])

    def test_funds_in_turns(self):
        funds = {"cy": 1, "ann": 4, "dee": 0, "bob": 2}
        told = [waterfall(lack, 1, funds)[1] for lack in range(1, 10)]
        self.same([list(row.values()) for row in told],
                  [[4, 2, 1, 0], [3, 2, 1, 0], [3, 1, 1, 0], [3, 1, 0, 0], [2, 1, 0, 0], [2, 0, 0, 0], [1, 0, 0, 0],
                   [0, 0, 0, 0], [0, 0, 0, 0]])
        self.same([waterfall(lack, 1, funds)[0] for lack in [0, 1, 2, 8, 9, 20]], [1, 0, 0, 0, -1, -12])
        self.same(list(told[0]), ["ann", "bob", "cy", "dee"])

    def test_a_house_below_0(self):
        self.same([waterfall(2, -4, {"ann": 1, "bob": 5}), waterfall(9, -4, {"ann": 1, "bob": 5})],
                  [(-4, {"ann": 0, "bob": 4}), (-7, {"ann": 0, "bob": 0})])

    def test_great_numbers(self):
        self.same(waterfall(10000, 1, {"ann": 10 ** 39, "bob": 4000}), (0, {"ann": 10 ** 39 - 5999, "bob": 0}))
        self.same(waterfall(10000, -10 ** 39, {"ann": 1, "bob": 5000}), (-10 ** 39 - 4999, {"ann": 0, "bob": 0}))

    def test_against_single_units(self):
        for seed in range(400):
            pick = random.Random(seed)
            names = pick.sample(["ann", "bob", "cy", "dee", "eve", "fay"], pick.randrange(0, 7))
            funds = {name: pick.choice([0, pick.randrange(0, 5), pick.randrange(0, 30)]) for name in names}
            house = pick.choice([0, pick.randrange(-10, 20)])
            lack = pick.randrange(0, sum(funds.values()) + 25)
            given = dict(funds)
            left, rest, bearers = unit_by_unit(lack + 1, house, funds)
            self.same(bearer(lack=lack, house=house, funds=funds), bearers[-1])
            left, rest, bearers = unit_by_unit(lack, house, funds)
            self.same(waterfall(lack, house, funds), (left, rest))
            self.same(funds, given)


class Bearer(Case):

    def test_bearer(self):
        funds = {"bob": 2, "ann": 1, "cy": 0}
        self.same([bearer(lack, 2, funds) for lack in range(7)], ["house", "house", "ann", "bob", "bob", "house", "house"])
        self.same([bearer(0, 0, funds), bearer(0, -1, funds), bearer(0, -1, {}), bearer(0, 0, {"ann": 0})],
                  ["ann", "ann", "house", "house"])

    def test_errors_in_order(self):
        funds = {"bob": -1, "ann": None}
        for call in (waterfall, bearer):
            for wrong in NO_INTEGERS + ODD + [-1, -10 ** 30]:
                self.raises_given(BadAmount, wrong, call, wrong, "house", funds)
            for wrong in NO_INTEGERS + ODD:
                self.raises_given(BadAmount, wrong, call, 1, wrong, funds)
            for wrong in NO_INTEGERS + ODD + [-1]:
                self.raises_given(BadAmount, wrong, call, 1, 1, {"bob": -2, "ann": wrong})
                self.raises_given(BadAmount, wrong, call, 0, 1, {"bob": wrong, "ann": 1, "cy": -3})
            self.raises(BadAmount, {"given": -1}, call, 0, 0, {"ann": -1})


if __name__ == "__main__":
    unittest.main()
