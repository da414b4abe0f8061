"""Orders and their texts [23], [24]."""

import itertools
import unittest

from evenmarket.errors import BadText, MarketError
from evenmarket.orders import BadOrder, Order
from tests.checks import Case, ODD, RESERVED, WRONG_NAMES

FIELDS = ["name", "member", "side", "unit", "price", "amount", "shows", "kind", "most"]
BUY = {"name": "ob", "member": "bob", "side": "buy", "unit": "corn", "price": 20, "amount": 5, "shows": 2,
       "kind": "stays", "most": None}
ANY = {**BUY, "price": None, "shows": None, "kind": "once", "most": 70}
NO_INTEGERS = [True, False, "1", (), [], {}, [1], (1,), 1.0]


def fields_of(order):
    return {field: getattr(order, field) for field in FIELDS}


class Orders(Case):

    def refused(self, field, value, **changes):
        with self.assertRaises(BadOrder) as caught:
            Order(**{**BUY, **changes})
        self.assertEqual(caught.exception.field, field)
        self.assertIs(caught.exception.value, value)

    def test_attributes(self):
        self.same(fields_of(Order(**BUY)), BUY)
        self.same(fields_of(Order(**ANY)), {**ANY, "shows": 5})
        self.same(fields_of(Order("a", "b", "sell", "c", 1, 99)),
                  {"name": "a", "member": "b", "side": "sell", "unit": "c", "price": 1, "amount": 99, "shows": 99,
                   "kind": "stays", "most": None})
        self.same(fields_of(Order("a", "b", "buy", "c", None, 1, None, "whole", 0)),
                  {"name": "a", "member": "b", "side": "buy", "unit": "c", "price": None, "amount": 1, "shows": 1,
                   "kind": "whole", "most": 0})

    def test_least_and_greatest_values(self):
        for field, value in [("price", 1), ("price", 99), ("amount", 2), ("amount", 99), ("shows", 1), ("shows", 5),
                             ("shows", None), ("name", "house"), ("name", "money"), ("name", "abcdefgh"),
                             ("member", "a"), ("unit", "abcdefgh"), ("side", "sell")]:
            self.assertEqual(getattr(Order(**{**BUY, field: value}), field), 5 if value is None else value)
        for most in [0, 1, 10 ** 40, None]:
            self.assertEqual(Order(**{**ANY, "most": most}).most, most)

    def test_names_may_be_reserved_and_members_and_units_not(self):
        for value in RESERVED:
            self.assertEqual(Order(**{**BUY, "name": value}).name, value)
            self.refused("member", value, member=value)
            self.refused("unit", value, unit=value)

    def test_values_that_are_none(self):
        for value in WRONG_NAMES + ODD:
            for field in ["name", "member", "unit"]:
                self.refused(field, value, **{field: value})
            self.refused("side", value, side=value)
            self.refused("kind", value, kind=value)
        for value in ["Buy", "sells", "stays"]:
            self.refused("side", value, side=value)
        for value in ["stay", "buy", "Once"]:
            self.refused("kind", value, kind=value)

    def test_numbers_that_are_none(self):
        for value in [0, 100, -1, 10 ** 40] + NO_INTEGERS:
            self.refused("price", value, price=value)
        for value in [0, 100, -1, 10 ** 40, None] + NO_INTEGERS:
            self.refused("amount", value, amount=value)
        for value in [0, 6, -1, 99, 10 ** 40] + NO_INTEGERS:
            self.refused("shows", value, shows=value)
        for value in [-1, -10 ** 40] + NO_INTEGERS:
            self.refused("most", value, most=value)

    def test_the_first_argument_counts(self):
        wrong = {"name": "", "member": "house", "side": "both", "unit": "money", "price": 0, "amount": 0, "shows": 0,
                 "kind": "waits", "most": -1}
        for at, field in enumerate(FIELDS):
            changes = {later: wrong[later] for later in FIELDS[at:]}
            self.refused(field, wrong[field], **changes)

    def test_what_does_not_go_together(self):
        self.refused("kind", "stays", price=None)
        self.refused("kind", "stays", price=None, shows=None, most=5)
        self.refused("shows", 2, kind="once")
        self.refused("shows", 5, kind="whole", shows=5)
        self.refused("shows", 2, kind="once", most=7)
        self.refused("shows", 2, kind="once", price=None, side="sell", most=7)
        for changes in [{}, {"shows": None}, {"kind": "once", "shows": None}, {"kind": "whole", "shows": None},
                        {"side": "sell", "price": None, "kind": "once", "shows": None},
                        {"side": "sell", "price": None, "kind": "whole", "shows": None}]:
            for most in [0, 70]:
                self.refused("most", most, most=most, **changes)

    def test_single_values_come_before_what_does_not_go_together(self):
        self.refused("most", -1, price=None, most=-1)
        self.refused("kind", "waits", price=None, kind="waits")
        self.refused("shows", 6, price=None, shows=6)

    def test_equal(self):
        order = Order(**BUY)
        self.assertTrue(order == Order(**BUY))
        self.assertFalse(order != Order(**BUY))
        others = {"name": "oc", "member": "ann", "side": "sell", "unit": "gas", "price": 21, "amount": 6, "shows": 3}
        for field, value in others.items():
            self.assertFalse(order == Order(**{**BUY, field: value}))
        self.assertFalse(order == Order(**{**BUY, "shows": None, "kind": "once"}))
        self.assertFalse(Order(**ANY) == Order(**{**ANY, "most": None}))
        self.assertFalse(Order(**ANY) == Order(**{**ANY, "kind": "whole"}))
        self.assertTrue(Order(**{**BUY, "shows": 5}) == Order(**{**BUY, "shows": None}))
        for other in [str(order), BUY, None, object(), 5]:
            self.assertFalse(order == other)
            self.assertTrue(order != other)

    def test_by_position(self):
        self.assertTrue(Order(*[BUY[field] for field in FIELDS]) == Order(**BUY))
        self.assertTrue(Order(*[ANY[field] for field in FIELDS]) == Order(**ANY))


TEXTS = {
    "ob bob buy corn 20 5 shows 2": BUY,
    "ob bob buy corn 20 5": {**BUY, "shows": None},
    "ob bob buy corn any 5 once most 70": ANY,
    "ob bob buy corn any 5 whole most 0": {**ANY, "kind": "whole", "most": 0},
    "ob bob buy corn any 5 once": {**ANY, "most": None},
    "ob bob sell corn any 5 whole": {**ANY, "side": "sell", "kind": "whole", "most": None},
    "ob bob sell corn 99 99 once": {**ANY, "side": "sell", "price": 99, "amount": 99, "most": None},
    "any once buy shows 1 1": {**BUY, "name": "any", "member": "once", "unit": "shows", "price": 1, "amount": 1,
                               "shows": None},
    "money most sell whole 10 10 shows 9": {**BUY, "name": "money", "member": "most", "side": "sell", "unit": "whole",
                                            "price": 10, "amount": 10, "shows": 9},
}

NO_TEXTS = [
    "", " ", "ob bob buy corn 20 5 ", " ob bob buy corn 20 5", "ob bob buy corn 20  5", "ob  bob buy corn 20 5",
    "ob bob buy corn 20 5\n", "ob bob buy corn 20\n5", "ob bob buy corn 20 05", "ob bob buy corn 020 5",
    "ob bob buy corn +20 5", "ob bob buy corn 20 +5", "ob bob buy corn -20 5", "ob bob buy corn 20 -5",
    "ob bob buy corn 20 5 shows 5", "ob bob buy corn 20 5 shows 6", "ob bob buy corn 20 5 shows 0",
    "ob bob buy corn 20 5 shows 02", "ob bob buy corn 20 5 shows", "ob bob buy corn 20 5 2 shows",
    "ob bob buy corn 20 5 shows 2 shows 2", "ob bob buy corn 20 5 shows 2 once", "ob bob buy corn 20 5 stays",
    "ob bob buy corn 20 5 shows 2 stays", "ob bob buy corn 20 5 once whole", "ob bob buy corn 20 5 once once",
    "ob bob buy corn 20 5 once most 70", "ob bob sell corn any 5 once most 70", "ob bob buy corn any 5",
    "ob bob buy corn any 5 most 70", "ob bob buy corn any 5 most 70 once", "ob bob buy corn any 5 once most",
    "ob bob buy corn any 5 once 70", "ob bob buy corn any 5 once most 070", "ob bob buy corn any 5 once most -1",
    "ob bob buy corn any 5 once most 70 most 70", "ob bob buy corn any 5 once most 70 x", "ob bob buy corn None 5 once",
    "ob bob buy corn 20", "ob bob buy corn", "bob buy corn 20 5", "ob bob corn 20 5", "ob bob buy 20 5", "ob buy corn 20 5",
    "ob buy bob corn 20 5", "bob ob corn buy 20 5", "ob bob buy corn 5 any", "ob bob buy corn 0 5", "ob bob buy corn 100 5",
    "ob bob buy corn 20 0", "ob bob buy corn 20 100", "ob house buy corn 20 5", "ob bob buy money 20 5",
    "Ob bob buy corn 20 5", "ob bob Buy corn 20 5", "ob bob hold corn 20 5", "ob bob buy corn 20 5 hello",
    "ob bob buy corn \u0662\u0660 5", "ob bob buy corn 2_0 5", "ob bob buy corn 20 5.0", "ob,bob,buy,corn,20,5",
    "ob bob buy corn 20 5 shows 2 most 7", "ob bob buy corn any 5 shows 2 once", "ob bob buy corn 20 5 ONCE",
    "ob ob bob buy corn 20 5", "ob bob buy corn 20 5 5", "ob bob buy corn 20 5 once shows 2",
]


class Texts(Case):

    def test_texts(self):
        for text, told in TEXTS.items():
            self.same(str(Order(**told)), text)
            self.assertTrue(Order.read(text) == Order(**told))
            self.assertTrue(Order.read(text=text) == Order(**told))

    def test_read_back(self):
        for side, price, shows, kind, most in itertools.product(
                ["buy", "sell"], [None, 1, 20, 99], [None, 1, 4, 5], ["stays", "once", "whole"], [None, 0, 70]):
            try:
                order = Order("oa", "ann", side, "corn", price, 5, shows, kind, most)
            except BadOrder:
                continue
            self.assertTrue(Order.read(str(order)) == order)
            self.same(fields_of(Order.read(str(order))), fields_of(order))

    def test_no_texts(self):
        for text in NO_TEXTS + ODD + [b"ob bob buy corn 20 5", ["ob bob buy corn 20 5"], Order(**BUY)]:
            with self.subTest(text=text):
                self.raises(BadText, {}, Order.read, text)

    def test_words_left_out_twice_and_exchanged(self):
        for text in TEXTS:
            words = text.split(" ")
            bent = [words[:at] + words[at + 1:] for at in range(len(words))]
            bent += [words[:at] + [words[at]] + words[at:] for at in range(len(words))]
            for at, other in itertools.combinations(range(len(words)), 2):
                changed = list(words)
                changed[at], changed[other] = words[other], words[at]
                bent.append(changed)
            for changed in bent:
                try:
                    order = Order.read(" ".join(changed))
                except MarketError as error:
                    self.assertIs(type(error), BadText)
                else:
                    self.same(str(order), " ".join(changed))


if __name__ == "__main__":
    unittest.main()
