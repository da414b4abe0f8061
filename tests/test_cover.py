"""What is checked, need, standing orders, covered, room [56], [59] to [62]."""

import itertools
import random
import unittest

from evenmarket.cover import (BadCount, BadMove, BadStanding, covered, is_uncovered, loss, need, room, worst,
                              worst_move)
from evenmarket.errors import BadAmount
from evenmarket.positions import BadPosition, BadPrices, UnknownUnit, joined
from tests.checks import Case, ODD
from tests.test_positions import NO_INTEGERS, NO_POSITIONS, NO_PRICES, WRONG_KEYS

MOVES = [{}, {"oil": -4}, {"oil": -4, "tin": 5}, {"tin": -6}]
PRICES = {"oil": 50, "tin": 20}
NO_MOVES = ([wrong for wrong in ODD if wrong not in ({}, {"ann": 1})] + ["oil", [("oil", 1)]] + [{key: 1} for key in WRONG_KEYS]
            + [{"oil": 1, key: 1} for key in WRONG_KEYS] + [{"oil": wrong} for wrong in NO_INTEGERS])
GOOD = ("buy", "oil", 50, 3)
NO_STANDING = (ODD + ["buy oil 50 3", list(GOOD), GOOD[:3], (*GOOD, 1)]
               + [(wrong, *GOOD[1:]) for wrong in ODD + ["Buy", "sells"]]
               + [("buy", wrong, 50, 3) for wrong in WRONG_KEYS + ODD]
               + [("buy", "oil", wrong, 3) for wrong in NO_INTEGERS + [0, 100, -1, 10 ** 30]]
               + [("buy", "oil", 50, wrong) for wrong in NO_INTEGERS + [0, -1]])


def random_position(pick):
    position = {"oil": pick.randrange(-4, 5), "tin": pick.randrange(-4, 5)}
    return {contract: number for contract, number in position.items() if number}


def random_moves(pick):
    return [{}] + [{contract: pick.randrange(-12, 13) for contract in pick.sample(["oil", "tin", "gas"], pick.randrange(0, 4))}
                   for _ in range(pick.randrange(0, 5))]


def random_orders(pick, most=3):
    return [(pick.choice(["buy", "sell"]), pick.choice(["oil", "tin"]), pick.randrange(40, 60), pick.randrange(1, 4))
            for _ in range(pick.randrange(0, most + 1))]


def random_prices(pick):
    return {"oil": pick.randrange(40, 60), "tin": pick.randrange(40, 60)}


def lost(position, orders, move, prices, filled):
    """What is lost by a move if so many units of each order are filled."""
    total = 0
    for contract, number in position.items():
        total -= number * move.get(contract, 0)
    for (side, contract, price, amount), units in zip(orders, filled):
        behind = prices[contract] + move.get(contract, 0)
        total += units * (price - behind if side == "buy" else behind - price)
    return total


class Checks(Case):
    """What several functions raise."""

    def check_moves(self, call):
        self.raises(BadCount, {"count": 0}, call, [])
        self.raises(BadCount, {"count": 0}, call, ())
        for many in [9, 10, 40]:
            self.raises(BadCount, {"count": many}, call, [{}] * many)
            self.raises(BadCount, {"count": many}, call, [None] * many)
        call([{}] * 8)
        call(({},))
        for wrong in NO_MOVES:
            for moves in [[wrong], [{}, wrong], [{"oil": 1}, {}, wrong, None]]:
                self.raises_given(BadMove, wrong, call, moves)
        for wrong in [{"oil": 1}, {"oil": 0}, {"oil": 0, "tin": 0}]:
            for moves in [[wrong], [wrong, {}], [wrong, {"oil": 2}, {}]]:
                self.raises_given(BadMove, wrong, call, moves)

    def check_errors(self, call):
        for wrong in NO_POSITIONS:
            self.raises_given(BadPosition, wrong, call, wrong, [None], [], None)
        for wrong in NO_STANDING:
            for orders in [[wrong], [GOOD, wrong], [wrong, None]]:
                self.raises_given(BadStanding, wrong, call, {}, orders, [], None)
        self.check_moves(lambda moves: call({}, [GOOD], moves, PRICES))
        self.raises(BadCount, {"count": 0}, call, {}, [GOOD], [], None)
        self.raises(BadMove, {"given": {"oil": 1}}, call, {}, [GOOD], [{"oil": 1}], None)
        for wrong in NO_PRICES:
            self.raises_given(BadPrices, wrong, call, {}, [GOOD], MOVES, wrong)
        for orders, prices, name in [([GOOD], {}, "oil"), ([GOOD, ("sell", "gas", 1, 1)], {"oil": 1}, "gas"),
                                     ([("sell", "tin", 1, 1), ("sell", "gas", 1, 1)], {"oil": 1}, "tin")]:
            self.raises(UnknownUnit, {"given": name}, call, {"lead": 1}, orders, MOVES, prices)


class Need(Checks):

    def test_loss(self):
        self.same([loss({}, {}), loss({}, {"oil": 5}), loss({"oil": 3}, {}), loss({"oil": 3}, {"tin": 4})], [0, 0, 0, 0])
        self.same([loss(position={"oil": 3, "tin": -2}, move={"oil": -4, "tin": 5}), loss({"oil": 3}, {"oil": 4}),
                   loss({"oil": -3, "tin": 1}, {"oil": 4, "tin": 0})], [22, -12, 12])

    def test_need(self):
        self.same([need(position={}, moves=MOVES), need({"oil": 3, "tin": -2}, tuple(MOVES)), need({"oil": -9}, MOVES[:2])],
                  [0, 22, 0])
        self.same(need({"oil": 10 ** 40}, [{}, {"oil": -40}]), 40 * 10 ** 40)

    def test_worst_move(self):
        self.same([worst_move(position={"oil": 3}, moves=MOVES), worst_move({"tin": -1}, MOVES), worst_move({"tin": 1}, MOVES),
                   worst_move({}, MOVES), worst_move({"oil": -1}, MOVES[:2])], [1, 2, 3, 0, 0])
        self.same(worst_move({"oil": 1}, [{}, {"oil": 0}, {"oil": -3}, {"oil": -4}, {"oil": -4, "tin": -9}]), 3)
        self.same(worst_move({"oil": 1}, [{}, {"oil": 5}, {"tin": -5}, {"oil": 0}]), 0)

    def test_what_the_need_says(self):
        for seed in range(200):
            pick = random.Random(seed)
            one, other, moves = random_position(pick), random_position(pick), random_moves(pick)
            losses = [lost(one, [], move, {}, []) for move in moves]
            self.same([[loss(one, move) for move in moves], need(one, moves), worst_move(one, moves)],
                      [losses, max(losses), losses.index(max(losses))])
            self.assertLessEqual(need(joined(one, other), moves), need(one, moves) + need(other, moves))
            self.assertGreaterEqual(need(one, moves + [{"oil": pick.randrange(-9, 9)}]), need(one, moves))

    def test_errors_in_order(self):
        for wrong in NO_POSITIONS:
            self.raises_given(BadPosition, wrong, loss, wrong, None)
            self.raises_given(BadPosition, wrong, need, wrong, [])
            self.raises_given(BadPosition, wrong, worst_move, wrong, [])
        for wrong in NO_MOVES:
            self.raises_given(BadMove, wrong, loss, {"oil": 1}, wrong)
        for call in (need, worst_move):
            self.check_moves(lambda moves: call({"oil": 1}, moves))


class Worst(Checks):

    def test_no_orders(self):
        self.same([worst({"oil": 3, "tin": -2}, [], MOVES, PRICES), worst({}, (), MOVES, {})], [(22, 2, ()), (0, 0, ())])

    def test_orders_alone(self):
        self.same([worst({}, [("buy", "oil", 50, 3)], MOVES[:2], PRICES), worst({}, [("buy", "oil", 45, 3)], MOVES[:2], PRICES),
                   worst({}, [("sell", "oil", 50, 3)], MOVES[:2], PRICES), worst({}, [("sell", "oil", 48, 3)], MOVES[:2], PRICES)],
                  [(12, 1, (3,)), (0, 0, (0,)), (0, 0, (0,)), (6, 0, (3,))])

    def test_orders_that_do_not_lose_are_not_filled(self):
        # The price of the order is just that behind the move.
        self.same(worst({"oil": 1}, [("buy", "oil", 46, 3), ("sell", "oil", 46, 2)], MOVES[:2], PRICES), (8, 0, (0, 2)))
        self.same(worst({"oil": 9}, [("buy", "oil", 46, 3), ("sell", "oil", 46, 2)], MOVES[:2], PRICES), (36, 1, (0, 0)))

    def test_the_first_move_that_can_bring_the_loss(self):
        moves = [{}, {"oil": -4}, {"oil": -4, "tin": -1}]
        self.same(worst({"oil": 1}, [("sell", "oil", 46, 1)], moves, PRICES), (4, 0, (1,)))
        self.same(worst({"oil": 1}, [("sell", "oil", 47, 1)], moves, PRICES), (4, 1, (0,)))
        self.same(worst({"oil": 1}, [("sell", "oil", 47, 1)], [{}, moves[2], moves[1]], PRICES), (4, 1, (0,)))

    def test_a_day_s_price_becomes_any_integer(self):
        self.same(worst({}, [("buy", "oil", 1, 2)], [{}, {"oil": -40}], {"oil": 3}), (76, 1, (2,)))
        self.same(worst({}, [("sell", "oil", 99, 2)], [{}, {"oil": 40}], {"oil": 98}), (78, 1, (2,)))

    def test_against_all_moves_and_all_numbers(self):
        for seed in range(150):
            pick = random.Random(seed)
            position, orders, moves, prices = (random_position(pick), random_orders(pick), random_moves(pick),
                                               random_prices(pick))
            found = {}
            for index, move in enumerate(moves):
                for filled in itertools.product(*[range(order[3] + 1) for order in orders]):
                    found[(index, filled)] = lost(position, orders, move, prices, filled)
            greatest = max(found.values())
            index = min(at for at, filled in found if found[(at, filled)] == greatest)
            unit = [lost({}, [order], moves[index], prices, [1]) for order in orders]
            filled = tuple([order[3] if one > 0 else 0 for order, one in zip(orders, unit)])
            self.same(worst(position=position, orders=orders, moves=moves, prices=prices), (greatest, index, filled))
            self.assertEqual(found[(index, filled)], greatest)
            for money in [greatest - 1, greatest, greatest + 1, -5, 0]:
                expected = (greatest, index, filled) if greatest > money else None
                self.same(covered(position, orders, moves, prices, money), expected)
                for (at, numbers), one in found.items():
                    self.assertIs(is_uncovered(position, orders, moves, prices, money, (at, numbers)), one > money)

    def test_errors_in_order(self):
        self.check_errors(worst)


class Covered(Checks):

    def test_money_at_the_loss(self):
        orders = [("buy", "oil", 52, 2), ("sell", "oil", 49, 1)]
        told = ({"oil": 1}, orders, MOVES[:2], {"oil": 50})
        self.same([covered(*told, money) for money in [15, 16, 17]], [(16, 1, (2, 0)), None, None])
        self.same(covered(position={"oil": 1}, orders=[], moves=MOVES[:2], prices={}, money=-1), (4, 1, ()))
        self.same([covered({}, [], [{}], {}, 0), covered({}, [], [{}], {}, -1)], [None, (0, 0, ())])

    def test_is_uncovered_with_money_at_the_loss(self):
        orders = [("buy", "oil", 52, 2), ("sell", "oil", 49, 1)]
        told = ({"oil": 1}, orders, MOVES[:2], {"oil": 50})
        for value, most in [((1, (2, 0)), 16), ((1, (2, 1)), 13), ((0, (2, 1)), 5), ((0, (0, 0)), 0), ((1, (0, 1)), 1)]:
            self.same([is_uncovered(*told, money, value) for money in [most - 1, most, most + 1]], [True, False, False])

    def test_values_that_are_no_such_tuple(self):
        orders = [("buy", "oil", 52, 2), ("sell", "oil", 49, 1)]
        told = ({"oil": 1}, orders, MOVES[:2], {"oil": 50}, -100)
        self.assertIs(is_uncovered(*told, (1, (2, 1))), True)
        for wrong in ODD + [[1, (2, 1)], (1, [2, 1]), (1, (2,)), (1, (2, 1, 0)), (1, (3, 1)), (1, (2, 2)), (1, (-1, 1)),
                            (1, (2, -1)), (2, (2, 1)), (-1, (2, 1)), (1,), (1, (2, 1), 0), (16, 1, (2, 0)), (1, 2, 1),
                            (True, (2, 1)), (1, (2, True)), (1, (None, 1)), (None, (2, 1)), ("1", (2, 1)), (1, "21"), (1, None),
                            (1, {0: 2, 1: 1}), (10 ** 30, (2, 1))]:
            self.assertIs(is_uncovered(*told, wrong), False)
            self.assertIs(is_uncovered(*told, value=wrong), False)

    def test_errors_in_order(self):
        for call in (covered, lambda *told: is_uncovered(*told, None)):
            self.check_errors(lambda *told: call(*told, 0))
            for wrong in NO_INTEGERS:
                self.raises_given(BadAmount, wrong, call, {}, [GOOD], MOVES, {}, wrong)
                self.raises_given(BadPrices, None, call, {}, [GOOD], MOVES, None, wrong)

class Room(Checks):

    def test_room(self):
        told = ({"oil": 1}, [], MOVES[:2], {"oil": 50})
        self.same([room(*told, money, "buy", "oil", 50) for money in [3, 4, 7, 8, 11, 20, 51, 52, 55, 56, 999]],
                  [None, 0, 0, 1, 1, 4, 11, 12, 12, 12, 12])
        self.same([room(*told, 4, "sell", "oil", price) for price in [46, 47, 48, 49, 50, 51]], [1, 1, 2, 4, 12, 12])

    def test_an_order_that_does_not_lose(self):
        self.same(room(position={}, orders=[], moves=MOVES[:2], prices={"oil": 50}, money=0, side="buy", contract="oil",
                       price=46), 12)
        self.same(room({}, [], MOVES[:2], {"oil": 50}, 0, "buy", "oil", 47), 0)
        self.same(room({}, [], MOVES[:2], {"oil": 50}, -1, "buy", "oil", 46), None)

    def test_against_all_amounts(self):
        found = []
        for seed in range(150):
            pick = random.Random(seed)
            position, orders, moves, prices = (random_position(pick), random_orders(pick), random_moves(pick),
                                               random_prices(pick))
            money = worst(position, orders, moves, prices)[0] + pick.choice([-1, 0, 3, 30])
            side, contract, price = pick.choice(["buy", "sell"]), pick.choice(["oil", "tin"]), pick.randrange(40, 60)
            fits = [covered(position, orders + [(side, contract, price, amount)], moves, prices, money) is None
                    for amount in range(1, 13)]
            expected = fits.count(True)
            self.assertEqual(fits, [True] * expected + [False] * (12 - expected))
            if covered(position, orders, moves, prices, money) is not None:
                expected = None
            self.same(room(position, tuple(orders), moves, prices, money, side, contract, price), expected)
            found.append(expected)
        self.assertTrue({None, 0, 12} < set(found))

    def test_errors_in_order(self):
        wrong_order = ("bay", "coal", 0)
        self.check_errors(lambda *told: room(*told, 0, "buy", "oil", 50))
        for wrong in NO_POSITIONS:
            self.raises_given(BadPosition, wrong, room, wrong, [None], [], None, None, *wrong_order)
        for wrong in NO_INTEGERS:
            self.raises_given(BadAmount, wrong, room, {}, [GOOD], MOVES, {}, wrong, *wrong_order)
        for side, contract, price in ([(wrong, "oil", 50) for wrong in ODD + ["bay"]]
                                      + [("buy", wrong, 50) for wrong in ODD + WRONG_KEYS]
                                      + [("sell", "oil", wrong) for wrong in NO_INTEGERS + [0, 100]]):
            self.raises(BadStanding, {"given": (side, contract, price, 1)}, room, {}, [GOOD], MOVES, {}, 0, side, contract,
                        price)
        self.raises(UnknownUnit, {"given": "oil"}, room, {}, [GOOD], MOVES, {}, 0, "buy", "tin", 50)
        self.raises(UnknownUnit, {"given": "tin"}, room, {}, [GOOD], MOVES, {"oil": 50}, 0, "buy", "tin", 50)
        # Also if it is not covered without the order.
        self.raises(UnknownUnit, {"given": "tin"}, room, {}, [GOOD], MOVES, {"oil": 50}, -9, "buy", "tin", 50)


class Arguments(Case):

    def test_arguments_stay(self):
        position, orders, moves, prices = {"oil": 1}, [GOOD], [{}, {"oil": -4}], {"oil": 50}
        worst(position, orders, moves, prices)
        room(position, orders, moves, prices, 99, "buy", "oil", 50)
        need(position, moves)
        self.same([position, orders, moves, prices], [{"oil": 1}, [GOOD], [{}, {"oil": -4}], {"oil": 50}])


if __name__ == "__main__":
    unittest.main()
