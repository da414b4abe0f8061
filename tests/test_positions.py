"""What is checked, positions, marking [56] to [58]."""

import random
import unittest

from evenmarket.positions import BadPosition, BadPrices, UnknownUnit, behind, joined, marked, net
from tests.checks import Case, ODD, RESERVED, WRONG_NAMES

NO_INTEGERS = [True, False, None, "1", (), [], {}, [1], (1,), 1.0]
WRONG_KEYS = RESERVED + [wrong for wrong in WRONG_NAMES if not isinstance(wrong, (list, dict))]
NO_POSITIONS = ([wrong for wrong in ODD if wrong not in ({}, {"ann": 1})]
                + ["oil", [("oil", 1)], (("oil", 1),), {"oil": 0}, {"oil": 1, "tin": 0}]
                + [{key: 1} for key in WRONG_KEYS] + [{"oil": 1, key: 1} for key in WRONG_KEYS]
                + [{"oil": wrong} for wrong in NO_INTEGERS] + [{"tin": 2, "oil": wrong} for wrong in NO_INTEGERS])
NO_PRICES = ([wrong for wrong in ODD if wrong not in ({}, {"ann": 1})]
             + ["oil", [("oil", 1)], {"oil": 0}, {"oil": 100}, {"oil": -1}]
             + [{key: 1} for key in WRONG_KEYS] + [{"oil": 1, key: 1} for key in WRONG_KEYS]
             + [{"oil": wrong} for wrong in NO_INTEGERS] + [{"oil": 2, "tin": wrong} for wrong in NO_INTEGERS])
TRADES = [("ann", "bob", "oil", 50, 3), ("bob", "cy", "oil", 52, 1)]


def random_trades(pick, many):
    trades = []
    for _ in range(many):
        buyer, seller = pick.sample(["ann", "bob", "cy", "dee"], 2)
        trades.append((buyer, seller, pick.choice(["oil", "tin"]), pick.randrange(1, 100), pick.randrange(1, 21)))
    return trades


class Joined(Case):

    def test_joined(self):
        self.same([joined({}, {}), joined({"oil": 3}, {}), joined(one={}, other={"oil": -3})], [{}, {"oil": 3}, {"oil": -3}])
        self.same(joined({"tin": 1, "oil": 3}, {"oil": -5}), {"oil": -2, "tin": 1})
        self.same(joined({"tin": 1, "oil": 3}, {"oil": -3, "tin": -1}), {})
        self.same(joined({"oil": 10 ** 40}, {"oil": 1 - 10 ** 40}), {"oil": 1})

    def test_arguments_stay(self):
        one, other = {"oil": 3}, {"oil": -3}
        joined(one, other)["tin"] = 1
        self.same([one, other], [{"oil": 3}, {"oil": -3}])
        joined(one, {})["oil"] = 9
        self.same(one, {"oil": 3})

    def test_errors_in_order(self):
        for wrong in NO_POSITIONS:
            self.raises_given(BadPosition, wrong, joined, wrong, None)
            self.raises_given(BadPosition, wrong, joined, wrong, {})
            self.raises_given(BadPosition, wrong, joined, {"oil": 1}, wrong)


class Behind(Case):

    def test_net(self):
        self.same([net([]), net(()), net(trades=TRADES)], [{}, {}, {"ann": {"oil": 3}, "bob": {"oil": -2}, "cy": {"oil": -1}}])

    def test_what_cancels_is_not_there(self):
        self.same(net([("bob", "ann", "oil", 50, 3), ("ann", "bob", "oil", 60, 3)]), {})
        self.same(net([("bob", "ann", "oil", 50, 3), ("ann", "bob", "oil", 60, 3), ("bob", "ann", "tin", 1, 1)]),
                  {"ann": {"tin": -1}, "bob": {"tin": 1}})
        self.same(behind({"cy": {"oil": 1}}, TRADES[1:]), {"bob": {"oil": 1}})
        self.same(behind({"cy": {"oil": 1}, "ann": {}}, []), {"cy": {"oil": 1}})

    def test_before(self):
        before = {"zoe": {"tin": 1}, "cy": {"oil": 1, "tin": 2}}
        self.same(behind(before=before, trades=TRADES),
                  {"ann": {"oil": 3}, "bob": {"oil": -2}, "cy": {"tin": 2}, "zoe": {"tin": 1}})
        behind(before, [])["zoe"]["tin"] = 9
        self.same(before, {"zoe": {"tin": 1}, "cy": {"oil": 1, "tin": 2}})

    def test_many(self):
        for seed in range(100):
            pick = random.Random(seed)
            first, second = random_trades(pick, pick.randrange(0, 6)), random_trades(pick, pick.randrange(0, 6))
            expected = {}
            for name in ["ann", "bob", "cy", "dee"]:
                position = {}
                for contract in ["oil", "tin"]:
                    number = sum(amount * ((buyer == name) - (seller == name))
                                 for buyer, seller, unit, price, amount in first + second if unit == contract)
                    if number:
                        position[contract] = number
                if position:
                    expected[name] = position
            self.same(behind(net(first), second), expected)
            self.same(net(first + second), expected)


class Marked(Case):

    def test_nobody_gets_anything(self):
        self.same([marked({}, [], {}, {}), marked({}, TRADES[:1], {}, {"oil": 50}), marked({"ann": {}}, [], {}, {}),
                   marked({"ann": {"oil": 3}}, [], {"oil": 50}, {"oil": 50})], [{}, {}, {}, {}])

    def test_positions_before(self):
        before = {"bob": {"oil": -2}, "ann": {"oil": 3, "tin": -1}}
        self.same(marked(before=before, trades=[], old={"oil": 50, "tin": 9}, new={"oil": 57, "tin": 1}),
                  {"ann": 29, "bob": -14})
        self.same(marked(before, [], {"tin": 9, "oil": 50, "zinc": 1}, {"oil": 43, "tin": 9}), {"ann": -21, "bob": 14})

    def test_trades_and_positions(self):
        self.same(marked({"bob": {"oil": 2}}, TRADES, {"oil": 40}, {"oil": 55}), {"ann": 15, "bob": 18, "cy": -3})
        self.same(marked({"bob": {"oil": 1}}, TRADES, {"oil": 43}, {"oil": 55}), {"ann": 15, "cy": -3})

    def test_errors_in_order(self):
        before = {"ann": {"tin": 1, "oil": 2}, "bob": {"zinc": -1}}
        trades = [("ann", "bob", "gas", 9, 1), ("ann", "bob", "coal", 9, 1)]
        for wrong in NO_PRICES:
            self.raises_given(BadPrices, wrong, marked, before, trades, wrong, None)
            self.raises_given(BadPrices, wrong, marked, before, trades, {}, wrong)
        for old, name in [({}, "oil"), ({"oil": 1}, "tin"), ({"oil": 1, "tin": 1, "coal": 1}, "zinc"), ({"tin": 1}, "oil")]:
            self.raises(UnknownUnit, {"given": name}, marked, before, trades, old, {})
        old = {"oil": 1, "tin": 1, "zinc": 1}
        for new, name in [({}, "coal"), ({"coal": 1}, "gas"), ({"coal": 1, "gas": 1}, "oil"), (old, "coal"),
                          ({"coal": 1, "gas": 1, "oil": 1, "zinc": 1}, "tin"), ({**old, "coal": 1}, "gas"),
                          ({"coal": 1, "gas": 1, "oil": 1, "tin": 1}, "zinc")]:
            self.raises(UnknownUnit, {"given": name}, marked, before, trades, old, new)
        self.same(marked({}, trades, {}, {"coal": 9, "gas": 9}), {})
        self.raises(UnknownUnit, {"given": "oil"}, marked, {"zoe": {"tin": 1}, "ann": {"oil": 1}}, [], {}, {})

    def test_day_by_day_or_all_at_once(self):
        for seed in range(100):
            pick = random.Random(seed)
            prices = {"oil": pick.randrange(1, 100), "tin": pick.randrange(1, 100)}
            position, got, done = {}, {}, []
            for day in range(pick.randrange(1, 6)):
                trades = random_trades(pick, pick.randrange(0, 5))
                new = {"oil": pick.randrange(1, 100), "tin": pick.randrange(1, 100)}
                paid = marked(position, trades, prices, new)
                self.same([sum(paid.values()), sorted(paid), 0 in paid.values()], [0, list(paid), False])
                for name in paid:
                    got[name] = got.get(name, 0) + paid[name]
                position, prices, done = behind(position, trades), new, done + trades
            self.same(marked({}, done, {}, prices), {name: got[name] for name in sorted(got) if got[name]})


if __name__ == "__main__":
    unittest.main()
