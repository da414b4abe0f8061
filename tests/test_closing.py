"""Closings, what is left, covering [63] to [65]."""

import itertools
import random
import unittest

from evenmarket.closing import BadClosing, closed, closings, covering, is_closing
from evenmarket.cover import BadCount, BadMove, need
from evenmarket.errors import BadAmount
from evenmarket.positions import BadPosition
from tests.checks import ODD
from tests.test_cover import Checks, random_moves
from tests.test_positions import NO_INTEGERS, NO_POSITIONS, WRONG_KEYS

MOVES = [{}, {"oil": -4}, {"oil": -4, "tin": 5}, {"tin": -6}]


def random_position(pick, most=6):
    position = {contract: pick.randrange(-most, most + 1) for contract in ["tin", "oil"]}
    return {contract: number for contract, number in position.items() if number}


def nearer(position, units):
    """The position with so many units of each contract closed."""
    left = {}
    for contract, number in position.items():
        number -= units.get(contract, 0) * (1 if number > 0 else -1)
        if number:
            left[contract] = number
    return left


def best_choice(position, moves, money):
    """What [63] says, by a look at all choices."""
    names = sorted(position)
    found = []
    for numbers in itertools.product(*[range(abs(position[name]) + 1) for name in names]):
        units = dict(zip(names, numbers))
        if need(nearer(position, units), moves) <= money:
            found.append((sum(numbers), [-number for number in numbers], units))
    units = min(found, key=lambda one: one[:2])[2] if money >= 0 else {name: abs(position[name]) for name in names}
    return {name: units[name] for name in names if units[name]}


class Closings(Checks):

    def test_nothing_is_closed(self):
        self.same([closings({}, MOVES, 0), closings({}, MOVES, -5), closings({"oil": 3}, MOVES, 12),
                   closings({"oil": 3}, MOVES, 13), closings({"oil": -3}, MOVES[:2], 0)], [{}, {}, {}, {}, {}])

    def test_one_contract(self):
        told = [closings(position={"oil": number}, moves=MOVES[:2], money=money)
                for number, money in [(3, 11), (3, 8), (3, 7), (3, 4), (3, 3), (3, 0), (3, -1), (-3, -1), (60, 8)]]
        self.same(told, [{"oil": units} for units in [1, 1, 2, 2, 3, 3, 3, 3, 58]])
        self.same(closings({"oil": -3}, [{}, {"oil": 4}], 5), {"oil": 2})

    def test_the_most_of_the_first_contract(self):
        moves = [{}, {"oil": -4, "tin": -4}]
        self.same([closings({"tin": 3, "oil": 2}, moves, money) for money in [19, 16, 12, 11, 4, 3]],
                  [{"oil": 1}, {"oil": 1}, {"oil": 2}, {"oil": 2, "tin": 1}, {"oil": 2, "tin": 2}, {"oil": 2, "tin": 3}])
        self.same(list(closings({"tin": 3, "oil": 2}, moves, 0)), ["oil", "tin"])
        self.same(list(closings({"tin": 3, "oil": 2}, moves, -1)), ["oil", "tin"])
        self.same(closings({"tin": -9, "oil": 2}, moves, -1), {"oil": 2, "tin": 9})

    def test_the_fewest_units_come_before_the_first_contract(self):
        self.same(closings({"tin": 3, "oil": 9}, [{}, {"oil": -1, "tin": -5}], 20), {"tin": 1})
        self.same(closings({"tin": 3, "oil": 9}, [{}, {"oil": -1, "tin": -5}], 8), {"oil": 1, "tin": 3})

    def test_two_contracts_that_stand_against_each_other(self):
        moves = [{}, {"oil": -4, "tin": -4}, {"oil": 4, "tin": 4}]
        self.same([closings({"oil": 5, "tin": -3}, moves, money) for money in [8, 7, 4, 3, 0]],
                  [{}, {"oil": 1}, {"oil": 1}, {"oil": 2}, {"oil": 2}])

    def test_sixty_units_of_two_contracts(self):
        self.same(closings({"oil": 60, "tin": -60}, [{}, {"oil": -40}, {"tin": 40}], 40), {"oil": 59, "tin": 59})

    def test_three_contracts(self):
        for seed in range(150):
            pick = random.Random(seed)
            names = ["oil", "tin", "zinc"]
            position = {name: number for name in names if (number := pick.randrange(-5, 6))}
            moves = [{}] + [{name: pick.randrange(-9, 10) for name in names if pick.randrange(3)} for _ in range(pick.randrange(8))]
            money = pick.randrange(-1, 50)
            self.same(closings(position, moves, money), best_choice(position, moves, money))

    def test_against_all_choices(self):
        for seed in range(200):
            pick = random.Random(seed)
            position, moves = random_position(pick), random_moves(pick)
            most = need(position, moves)
            before = None
            for money in sorted([-1, 0, most - 1, most, most + 1, pick.randrange(0, most + 2)]):
                found = closings(position, moves, money)
                self.same(found, best_choice(position, moves, money))
                self.same(closed(position, found), nearer(position, found))
                if before is not None:
                    self.assertLessEqual(sum(found.values()), before)
                before = sum(found.values())
                self.assertIs(is_closing(position, moves, money, dict(found)), True)
                for bent in [{**found, "oil": found.get("oil", 0) + 1}, {**found, "gas": 1}, {**found, "oil": 0},
                             {name: found[name] for name in list(found)[1:]}]:
                    self.assertIs(is_closing(position, moves, money, bent), bent == found)

    def test_values_that_are_none(self):
        told = ({"oil": 3, "tin": -2}, MOVES, 10)
        self.assertIs(is_closing(*told, value={"oil": 3}), True)
        for wrong in ODD + [{}, {"oil": 2, "tin": 1}, {"oil": 3, "tin": 0}, [("oil", 3)], (("oil", 3),), {"oil": "3"},
                            {"oil": [3]}, {"oil": 3.0}, {"oil": None}, {"oil": 4}, {"tin": 3}, {("oil",): 3}, "oil 3", 3]:
            self.assertIs(is_closing(*told, wrong), False)
        self.assertIs(is_closing({"oil": 1}, MOVES, 0, {"oil": 1}), True)
        self.assertIs(is_closing({"oil": 1}, MOVES, 0, {"oil": True}), False)
        self.assertIs(is_closing({"oil": 1}, MOVES, 9, {"oil": 0}), False)
        self.assertIs(is_closing({"oil": 1}, MOVES, 9, {}), True)
        self.assertIs(is_closing({}, MOVES, -1, {}), True)

    def test_errors_in_order(self):
        for call in (closings, lambda *told: is_closing(*told, None)):
            for wrong in NO_POSITIONS:
                self.raises_given(BadPosition, wrong, call, wrong, [], None)
            self.check_moves(lambda moves: call({"oil": 1}, moves, 5))
            self.raises(BadCount, {"count": 0}, call, {}, [], None)
            self.raises(BadMove, {"given": None}, call, {}, [{}, None], None)
            for wrong in NO_INTEGERS:
                self.raises_given(BadAmount, wrong, call, {}, MOVES, wrong)


class Closed(Checks):

    def test_closed(self):
        self.same([closed({}, {}), closed({"oil": 3}, {}), closed(position={"oil": 3, "tin": -2}, closing={"oil": 1}),
                   closed({"oil": 3, "tin": -2}, {"tin": 1, "oil": 3}), closed({"oil": 3, "tin": -2}, {"tin": 2, "oil": 3})],
                  [{}, {"oil": 3}, {"oil": 2, "tin": -2}, {"tin": -1}, {}])

    def test_arguments_stay(self):
        position, closing = {"oil": 3}, {"oil": 1}
        closed(position, closing)["oil"] = 7
        closed(position, {})["oil"] = 7
        covering(position, MOVES, 1, 1)
        self.same([position, closing], [{"oil": 3}, {"oil": 1}])

    def test_errors_in_order(self):
        for wrong in NO_POSITIONS:
            self.raises_given(BadPosition, wrong, closed, wrong, None)
        position = {"oil": 3, "tin": -2}
        wrongs = ([wrong for wrong in ODD if wrong != {}] + [[("oil", 1)], {"oil": 0}, {"oil": 4}, {"tin": 3}, {"tin": -1},
                  {"oil": -1}, {"gas": 1}, {"gas": 0}, {"oil": 1, "tin": 3}, {"oil": 1, "gas": 1}, "oil"]
                  + [{"oil": wrong} for wrong in NO_INTEGERS] + [{key: 1} for key in WRONG_KEYS])
        for wrong in wrongs:
            self.raises_given(BadClosing, wrong, closed, position, wrong)
        self.raises(BadClosing, {"given": {"oil": 1}}, closed, {}, {"oil": 1})


class Covering(Checks):

    def test_money_around_the_need(self):
        told = [covering(position={"oil": 3}, moves=MOVES[:2], cover=cover, free=free)
                for cover, free in [(2, 5), (0, 12), (12, 0), (20, -8), (20, -7), (2, 9), (0, 20), (0, 0), (5, -5), (5, -6),
                                    (0, -1), (7, -30)]]
        self.same(told, [(4, 3, {"oil": 2}, 0), (12, 0, {}, 0), (12, 0, {}, 0), (12, 0, {}, 0), (12, 1, {}, 0),
                         (8, 3, {"oil": 1}, 0), (12, 8, {}, 0), (0, 0, {"oil": 3}, 0), (0, 0, {"oil": 3}, 0),
                         (0, 0, {"oil": 3}, 1), (0, 0, {"oil": 3}, 1), (0, 0, {"oil": 3}, 23)])

    def test_no_position(self):
        self.same([covering({}, MOVES, 5, 3), covering({}, MOVES, 5, -3), covering({}, MOVES, 5, -9)],
                  [(0, 8, {}, 0), (0, 2, {}, 0), (0, 0, {}, 4)])

    def test_what_it_says(self):
        for seed in range(300):
            pick = random.Random(seed)
            position, moves = random_position(pick), random_moves(pick)
            cover, free = pick.randrange(0, 60), pick.randrange(-70, 90)
            found = covering(position, moves, cover, free)
            behind, rest, closing, lack = found
            self.same(closing, closings(position, moves, cover + free))
            left = closed(position, closing)
            self.assertEqual(behind + rest - lack, cover + free)
            if cover + free < 0:
                self.same([left, behind, rest], [{}, 0, 0])
            else:
                self.same([behind, lack], [need(left, moves), 0])
                self.assertGreaterEqual(rest, 0)
            self.same(covering(left, moves, behind, rest), (behind, rest, {}, 0))

    def test_errors_in_order(self):
        for wrong in NO_POSITIONS:
            self.raises_given(BadPosition, wrong, covering, wrong, [], None, None)
        self.check_moves(lambda moves: covering({"oil": 1}, moves, 5, 5))
        self.raises(BadCount, {"count": 9}, covering, {}, [None] * 9, None, None)
        for wrong in NO_INTEGERS + [-1, -10 ** 30]:
            self.raises_given(BadAmount, wrong, covering, {}, MOVES, wrong, "free")
        for wrong in NO_INTEGERS:
            self.raises_given(BadAmount, wrong, covering, {}, MOVES, 0, wrong)


if __name__ == "__main__":
    unittest.main()
