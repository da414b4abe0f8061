"""The rules of a market [90]."""

import itertools
import unittest

from evenmarket.facts import BadRules, Rules
from tests.checks import Case, ODD, RESERVED, WRONG_NAMES
from tests.test_positions import NO_INTEGERS

MOVES = [{}, {"oil": 5}, {"oil": -5, "tin": 2}]


class Making(Case):

    def test_goods_and_contracts(self):
        rules = Rules(goods=["wood", "iron"], contracts=["tin", "oil"], moves=MOVES)
        self.same([rules.goods(), rules.contracts(), rules.moves()], [["iron", "wood"], ["oil", "tin"], MOVES])
        for goods, contracts in itertools.product([[], ["wood"], ("wood", "iron")], [[], ["oil"], ("tin", "oil")]):
            rules = Rules(goods, contracts, [{}])
            self.same([rules.goods(), rules.contracts(), rules.moves()], [sorted(goods), sorted(contracts), [{}]])
        self.same(Rules(["a"], ["abcdefgh"], [{}]).contracts(), ["abcdefgh"])

    def test_wrong_goods_and_contracts(self):
        lists = [wrong for wrong in ODD if wrong not in ([], (), ["ann"])] + ["wood", {"wood": 1}, ["a", "b", "c"], ["a", "a"], ("a", "a")]
        lists += [[name] for name in WRONG_NAMES + RESERVED] + [["wood", name] for name in WRONG_NAMES + RESERVED]
        for wrong in lists:
            self.raises_given(BadRules, wrong, Rules, wrong, None, None)
            self.raises_given(BadRules, wrong, Rules, wrong, ["oil"], [{}])
            self.raises_given(BadRules, wrong, Rules, ["gold"], wrong, None)
            self.raises_given(BadRules, wrong, Rules, [], wrong, [{}])

    def test_a_contract_that_is_a_good(self):
        for wrong in [["wood"], ["wood", "oil"], ["oil", "wood"], ("iron",), ["iron", "wood"]]:
            self.raises_given(BadRules, wrong, Rules, ["iron", "wood"], wrong, None)

    def test_moves(self):
        eight = [{}] + [{"oil": change} for change in range(-3, 4)]
        self.same(Rules([], ["oil"], tuple(eight)).moves()[4], {})
        self.same(len(Rules([], ["oil"], eight).moves()), 8)
        self.same(Rules([], [], [{}, {}]).moves(), [{}, {}])
        self.same(Rules([], ["oil", "tin"], [{}, {"oil": 0}, {"tin": 0, "oil": 7}, {"tin": -10 ** 30}]).moves(),
                  [{}, {}, {"oil": 7}, {"tin": -10 ** 30}])

    def test_wrong_moves(self):
        wrongs = [wrong for wrong in ODD] + [[], (), eight_and_one(), [{"oil": 1}], [{"oil": 0}], [{"oil": 1}, {}], {}, [[]], [()],
                                             {0: {}}, [{}, [("oil", 1)]], [{}, {"wood": 1}], [{}, {"gold": 1}], [{}, {"money": 1}]]
        wrongs += [[{}, {"oil": wrong}] for wrong in NO_INTEGERS] + [[{}, {"oil": 1, "tin": wrong}] for wrong in NO_INTEGERS]
        wrongs += [[{}, {wrong: 1}] for wrong in WRONG_NAMES + RESERVED if not isinstance(wrong, (list, dict))]
        wrongs += [[{}, wrong] for wrong in ODD if wrong != {}] + [[wrong] for wrong in ODD if wrong != {}]
        for wrong in wrongs:
            self.raises_given(BadRules, wrong, Rules, ["wood"], ["oil", "tin"], wrong)
        self.raises(BadRules, {"given": [{}, {"oil": 1}]}, Rules, ["wood"], [], [{}, {"oil": 1}])
        self.raises(BadRules, {"given": [{}, {"oil": 0}]}, Rules, [], ["tin"], [{}, {"oil": 0}])

    def test_the_first_one_counts(self):
        self.raises(BadRules, {"given": "a"}, Rules, "a", "b", "c")
        self.raises(BadRules, {"given": "b"}, Rules, [], "b", "c")
        self.raises(BadRules, {"given": "c"}, Rules, [], [], "c")


def eight_and_one():
    return [{}] * 9


class Equal(Case):

    def test_equal(self):
        rules = Rules(["wood", "iron"], ["oil", "tin"], MOVES)
        for other in [Rules(["iron", "wood"], ["tin", "oil"], MOVES), Rules(("iron", "wood"), ("tin", "oil"), tuple(MOVES)),
                      Rules(["wood", "iron"], ["oil", "tin"], [{}, {"tin": 0, "oil": 5}, {"tin": 2, "oil": -5}])]:
            self.assertTrue(rules == other)
            self.assertFalse(rules != other)

    def test_unlike(self):
        rules = Rules(["wood"], ["oil"], [{}, {"oil": 5}, {"oil": -5}])
        for other in [Rules(["iron"], ["oil"], [{}, {"oil": 5}, {"oil": -5}]), Rules([], ["oil"], [{}, {"oil": 5}, {"oil": -5}]),
                      Rules(["wood", "iron"], ["oil"], [{}, {"oil": 5}, {"oil": -5}]),
                      Rules(["wood"], ["oil", "tin"], [{}, {"oil": 5}, {"oil": -5}]), Rules(["wood"], ["oil"], [{}, {"oil": -5}, {"oil": 5}]),
                      Rules(["wood"], ["oil"], [{}, {"oil": 5}]), Rules(["wood"], ["oil"], [{}, {"oil": 5}, {"oil": -5}, {}]),
                      Rules(["wood"], ["oil"], [{}, {"oil": 5}, {"oil": -4}]), None, "rules", (["wood"], ["oil"]), 1]:
            self.assertFalse(rules == other)
            self.assertTrue(rules != other)

    def test_nothing_changes_rules(self):
        goods, contracts, moves = ["wood"], ["oil"], [{}, {"oil": 5}]
        rules = Rules(goods, contracts, moves)
        goods.append("iron")
        contracts[0] = "tin"
        moves[1]["oil"] = 9
        moves.append({})
        rules.goods().clear()
        rules.contracts().append("tin")
        rules.moves()[1]["oil"] = 7
        rules.moves().clear()
        self.same([rules.goods(), rules.contracts(), rules.moves()], [["wood"], ["oil"], [{}, {"oil": 5}]])
        moves = [{}, {"oil": 0, "tin": 1}]
        Rules([], ["oil", "tin"], moves)
        self.same(moves, [{}, {"oil": 0, "tin": 1}])


if __name__ == "__main__":
    unittest.main()
