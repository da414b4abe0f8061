"""Dues, their texts, dues of trades, netted dues [73] to [75]."""

import random
import unittest

from evenmarket.dues import BadDues, BadLegs, BadNumber, Due, due_of, netted
from evenmarket.errors import BadText, MarketError
from tests.checks import Case, ODD, RESERVED, WRONG_NAMES

NO_INTEGERS = [True, False, None, "1", (), [], {}, [1], (1,), 1.0]
LEG = ("ann", "bob", "iron", 2)
FOUR = [("bob", "ann", "money", 6), ("ann", "bob", "iron", 2), ("cy", "ann", "wood", 1), ("ann", "cy", "iron", 10)]
SALE = Due(3, FOUR[:2])
# Lists of legs of which each one by itself is right.
CLASHES = [
    [LEG, LEG], [LEG, ("ann", "bob", "iron", 3)], [LEG, ("bob", "ann", "iron", 2)], [LEG, ("bob", "cy", "iron", 2)],
    [LEG, ("cy", "ann", "iron", 1)], [FOUR[2], LEG, ("ann", "cy", "wood", 1)],
    [("ann", "bob", "money", 1), ("cy", "dee", "money", 1), ("dee", "ann", "money", 1)]]


def random_due(pick, number=0, owners=("ann", "bob", "cy", "dee"), most=3):
    """A due with one to four legs."""
    while True:
        legs = []
        for _ in range(pick.randrange(1, 5)):
            giver, taker = pick.sample(owners, 2)
            legs.append((giver, taker, pick.choice(["money", "iron", "wood"]), pick.randrange(1, most + 1)))
        try:
            return Due(number, legs)
        except BadLegs:
            pass


class Dues(Case):

    def test_attributes(self):
        self.same([SALE.number, SALE.legs], [3, (("ann", "bob", "iron", 2), ("bob", "ann", "money", 6))])
        due = Due(number=0, legs=tuple(FOUR))
        self.same([due.number, due.legs],
                  [0, (("ann", "bob", "iron", 2), ("ann", "cy", "iron", 10), ("bob", "ann", "money", 6), ("cy", "ann", "wood", 1))])
        self.same(Due(10 ** 39, [LEG]).legs, (LEG,))

    def test_what_a_due_tells(self):
        due = Due(1, FOUR)
        self.same([due.gives(owner="ann", unit="iron"), due.gives("ann", "money"), due.gives("bob", "money"), due.gives("cy", "wood"),
                   due.gives("cy", "iron"), due.gives("zoe", "iron"), due.gives("ann", "gold")], [12, 0, 6, 1, 0, 0, 0])
        self.same([due.takes(owner="ann", unit="money"), due.takes("ann", "wood"), due.takes("ann", "iron"),
                   due.takes("cy", "iron"), due.takes("bob", "iron"), due.takes("zoe", "iron")], [6, 1, 0, 10, 2, 0])
        self.same([due.owners(), due.doors()], [["ann", "bob", "cy"], [("ann", "iron"), ("bob", "money"), ("cy", "wood")]])
        due = Due(1, [("cy", "bob", "iron", 2), ("ann", "bob", "iron", 3)])
        self.same([due.takes("bob", "iron"), due.owners(), due.doors()],
                  [5, ["ann", "bob", "cy"], [("ann", "iron"), ("cy", "iron")]])

    def test_numbers(self):
        for wrong in NO_INTEGERS + ODD + [-1, -10 ** 30]:
            self.raises_given(BadNumber, wrong, Due, wrong, None)
            self.raises_given(BadNumber, wrong, Due, wrong, [LEG])

    def test_legs_with_one_thing_otherwise(self):
        wrongs = [(*LEG[:at], part, *LEG[at + 1:]) for at in (0, 1) for part in WRONG_NAMES + RESERVED]
        wrongs += [(*LEG[:2], part, 2) for part in WRONG_NAMES + ["house", "outside"]]
        wrongs += [(*LEG[:3], part) for part in NO_INTEGERS + [0, -1]]
        wrongs += [LEG[:3], (*LEG, 1), list(LEG), "ann bob iron 2", ("ann", "ann", "iron", 2), {0: LEG}] + ODD
        for leg in wrongs:
            for legs in [[leg], [FOUR[0], leg], [leg, FOUR[2]]]:
                self.raises_given(BadLegs, legs, Due, 1, legs)
        self.same(Due(1, [("ann", "bob", "money", 2)]).doors(), [("ann", "money")])

    def test_lists_of_legs(self):
        for wrong in ODD + [LEG, [], (), FOUR + [("dee", "eve", "gold", 1)], "ann bob iron 2", {LEG: 1}, iter([LEG])] + CLASHES:
            self.raises_given(BadLegs, wrong, Due, 1, wrong)
        self.same(len(Due(1, FOUR[:3] + [("dee", "eve", "gold", 1)]).legs), 4)
        # One giver to two takers, two givers to one taker, one unit on each way.
        for legs in [[LEG, ("ann", "cy", "iron", 2)], [LEG, ("cy", "bob", "iron", 2)], [LEG, ("bob", "ann", "wood", 2)],
                     [LEG, ("bob", "cy", "wood", 2), ("cy", "ann", "money", 2)]]:
            self.same(Due(1, legs).legs, tuple(sorted(legs)))

    def test_equal(self):
        due = Due(3, FOUR)
        self.assertTrue(due == Due(3, FOUR[::-1]) and not due != Due(3, tuple(FOUR)))
        for other in [Due(4, FOUR), Due(3, FOUR[:3]), Due(3, FOUR[:3] + [("ann", "cy", "iron", 11)]), due.text(), due.legs, None]:
            self.assertFalse(due == other)
            self.assertTrue(due != other)

    def test_dues_never_change(self):
        legs = list(FOUR)
        due = Due(3, legs)
        legs.clear()
        due.owners().clear()
        due.doors().clear()
        self.assertTrue(due == Due(3, FOUR))


class Texts(Case):

    def test_texts(self):
        self.same([SALE.text(), Due(0, [LEG]).text()], ["3: ann bob iron 2, bob ann money 6", "0: ann bob iron 2"])
        self.same(Due(12, FOUR).text(), "12: ann bob iron 2, ann cy iron 10, bob ann money 6, cy ann wood 1")
        # Legs stand by their amounts as numbers, not as words.
        self.same(Due(1, [("ann", "bob", "b", 9), ("ann", "bob", "a", 10)]).text(), "1: ann bob a 10, ann bob b 9")

    def test_read_back(self):
        for seed in range(200):
            due = random_due(random.Random(seed), seed, most=12)
            self.assertTrue(Due.read(due.text()) == due)
            self.assertTrue(Due.read(text=due.text()) == due)
        self.same(Due.read(f"{10 ** 39}: ann bob iron {10 ** 39}").legs, (("ann", "bob", "iron", 10 ** 39),))

    def test_no_texts(self):
        for text in ODD + [
                "3:", "3: ", "3", ": ann bob iron 2", "3 ann bob iron 2", "3:ann bob iron 2", "3:  ann bob iron 2",
                "3: ann bob iron 2,", "3: ann bob iron 2, ", "3: ann bob iron 2,bob ann money 6",
                "3: ann bob iron 2,  bob ann money 6", "3: bob ann money 6, ann bob iron 2", "3: ann bob iron 2, ann bob iron 2",
                "3: ann bob iron 2, bob ann iron 6", "03: ann bob iron 2", "+3: ann bob iron 2", "-3: ann bob iron 2",
                "3: ann bob iron 02", "3: ann bob iron +2", "3: ann bob iron -2", "3: ann bob iron 0", "3: ann bob iron",
                "3: ann bob iron 2 2", "3: ann ann iron 2", "3: ann bob house 2", "3: house bob iron 2", "3: ann money iron 2",
                "3: ann bob iron two", "x: ann bob iron 2", "3 : ann bob iron 2", "3: ann bob iron 2\n", "\n3: ann bob iron 2",
                " 3: ann bob iron 2", "3: ann bob iron 2 ", "3: ann bob iron 2: ", "3: 3: ann bob iron 2", "3: ann bob iron 2.0",
                "3; ann bob iron 2", "3: ann  bob iron 2", "3: Ann bob iron 2", "3: ann bob iron 1_0", "3: ann bob iron \u0662",
                "3: a b c 1, b c d 1, c d e 1, d e f 1, e f g 1", b"3: ann bob iron 2", ["3: ann bob iron 2"], SALE]:
            with self.subTest(text=text):
                self.raises(BadText, {}, Due.read, text)

    def test_texts_with_a_sign_changed(self):
        text = SALE.text()
        for at in range(len(text)):
            for sign in ["", " ", "0", "-", "a", "\n", ",", ":", text[at] * 2]:
                bent = text[:at] + sign + text[at + 1:]
                try:
                    due = Due.read(bent)
                except MarketError as error:
                    self.assertIs(type(error), BadText)
                else:
                    self.same(due.text(), bent)


class Trades(Case):

    def test_due_of(self):
        due = due_of(number=3, trade=("bob", "ann", "iron", 3, 2))
        self.assertTrue(due == SALE)
        self.same(due_of(0, ("ann", "bob", "wood", 99, 20)).legs, (("ann", "bob", "money", 1980), ("bob", "ann", "wood", 20)))


class Netted(Case):

    def test_netted(self):
        self.same(netted(9, [SALE]).legs, SALE.legs)
        due = netted(number=9, dues=(SALE, Due(3, [("bob", "ann", "iron", 5)]), Due(5, [("bob", "ann", "money", 1)])))
        self.same([due.number, due.legs], [9, (("bob", "ann", "iron", 3), ("bob", "ann", "money", 7))])
        due = netted(0, [SALE, Due(4, [("ann", "bob", "money", 6), ("bob", "ann", "wood", 1)])])
        self.same(due.legs, (("ann", "bob", "iron", 2), ("bob", "ann", "wood", 1)))

    def test_dues_that_cancel_to_nothing(self):
        back = Due(8, [("bob", "ann", "iron", 2), ("ann", "bob", "money", 6)])
        self.same([netted(9, [SALE, back]), netted(9, [SALE, SALE, back, back])], [None, None])
        self.same(netted(9, [SALE, SALE, back]).legs, SALE.legs)

    def test_many(self):
        for seed in range(200):
            pick = random.Random(seed)
            dues = [random_due(pick, number, ("ann", "bob")) for number in range(pick.randrange(1, 6))]
            legs = []
            for unit in ["iron", "money", "wood"]:
                more = sum(leg[3] * (1 if leg[0] == "ann" else -1) for due in dues for leg in due.legs if leg[2] == unit)
                if more:
                    legs.append(("ann", "bob", unit, more) if more > 0 else ("bob", "ann", unit, -more))
            found = netted(7, dues)
            self.same(None if found is None else found.legs, tuple(sorted(legs)) if legs else None)

    def test_errors_in_order(self):
        for wrong in NO_INTEGERS + ODD + [-1]:
            self.raises_given(BadNumber, wrong, netted, wrong, None)
            self.raises_given(BadNumber, wrong, netted, wrong, [SALE])
        other = Due(4, [("ann", "cy", "iron", 2)])
        for wrong in ODD + [SALE, [], (), [SALE, None], [None, SALE], [SALE, other], [other, SALE], [Due(1, FOUR)], [SALE.text()],
                            [SALE, Due(4, [("cy", "dee", "iron", 2)])], {SALE.number: SALE}, list(SALE.legs), [[SALE]],
                            [Due(4, [("ann", "bob", "iron", 2), ("cy", "dee", "iron", 2)])]]:
            self.raises_given(BadDues, wrong, netted, 9, wrong)


if __name__ == "__main__":
    unittest.main()
