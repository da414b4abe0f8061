"""Lots, units that go, what is kept, texts [48] to [51], [55]."""

import random
import unittest

from evenmarket.errors import BadAmount, BadDay, BadLine, MarketError
from evenmarket.lots import BadCost, BadLots, BadWay, Lots, NotThere
from tests.checks import Case, ODD

NO_INTEGERS = [True, False, None, "1", (), [], {}, [1], (1,), 1.0]
WORDS = ["first", "last", "dearest"]
# 3 units for 10, 4 of 5 for 9 in all of which one is gone, 2 that are gone, 6 for nothing.
SOME = [(1, 3, 10, 0), (1, 5, 9, 1), (4, 2, 7, 2), (4, 6, 0, 0)]


def random_lots(pick, most=5, units=12):
    lots, day = [], 0
    for _ in range(pick.randrange(0, most + 1)):
        day += pick.randrange(0, 3)
        amount = pick.randrange(1, units + 1)
        lots.append((day, amount, pick.choice([0, amount, pick.randrange(0, 40)]),
                     pick.choice([0, amount, pick.randrange(0, amount + 1)])))
    return Lots(lots)


def unit_costs(lot):
    """What each unit of a lot costs, by its place."""
    day, amount, cost, gone = lot
    return [cost * (k + 1) // amount - cost * k // amount for k in range(amount)]


def went_by_units(lots, amount, word):
    """What `went` tells, one unit after the other; None if there are fewer."""
    lots = lots.lots()
    parts = {}
    for _ in range(amount):
        there = [at for at, lot in enumerate(lots) if lot[3] < lot[1]]
        if not there:
            return None
        if word == "first":
            at = there[0]
        elif word == "last":
            at = there[-1]
        else:
            at = there[0]
            for other in there:
                if lots[other][2] * lots[at][1] > lots[at][2] * lots[other][1]:
                    at = other
        day, many, cost, gone = lots[at]
        units, paid = parts.get(at, (0, 0))
        parts[at] = (units + 1, paid + unit_costs(lots[at])[gone])
        lots[at] = (day, many, cost, gone + 1)
    return lots, sum(paid for units, paid in parts.values()), [(at, *parts[at]) for at in sorted(parts)]


class ListsOfLots(Case):

    def test_no_lots(self):
        for lots in [Lots(), Lots([]), Lots(()), Lots(lots=[])]:
            self.same([lots.lots(), lots.units(), lots.cost(), lots.text()], [[], 0, 0, ""])

    def test_what_lots_tell(self):
        lots = Lots(SOME)
        self.same([lots.lots(), lots.units(), lots.cost()], [SOME, 13, 18])
        self.same(Lots(tuple(SOME)).lots(), SOME)
        self.same(Lots(SOME[2:3]).cost(), 0)

    def test_the_first_units_cost_the_quotient_rounded_down(self):
        self.same([Lots([(0, 3, 10, gone)]).cost() for gone in range(4)], [10, 7, 4, 0])
        self.same([Lots([(0, 4, 2, gone)]).cost() for gone in range(5)], [2, 2, 1, 1, 0])

    def test_great_numbers(self):
        lots = Lots([(7 ** 47, 10 ** 39, 3 * 10 ** 39 + 1, 10 ** 38)])
        self.same([lots.units(), lots.cost()], [9 * 10 ** 38, 3 * 10 ** 39 + 1 - 3 * 10 ** 38])

    def test_lots_with_one_thing_otherwise(self):
        good = (3, 4, 5, 2)
        self.same(Lots([good]).lots(), [good])
        bent = [good[:at] + (part,) + good[at + 1:] for at in range(4) for part in NO_INTEGERS + [-1, -10 ** 30]]
        bent += [(3, 0, 5, 0), (3, 4, 5, 5), (3, 4, 5, 10 ** 30), (3, 4, 5), (3, 4, 5, 2, 2), list(good), "3 4 5 2", {3: 4}]
        for lot in bent + ODD:
            for wrong in [[lot], [(3, 1, 1, 0), lot], [lot, (3, 1, 1, 0)]]:
                self.raises_given(BadLots, wrong, Lots, wrong)
        for lot in [(0, 4, 5, 2), (3, 1, 5, 0), (3, 4, 0, 2), (3, 4, 5, 0), (3, 4, 5, 4)]:
            self.same(Lots([lot]).lots(), [lot])

    def test_days_never_fall(self):
        self.same(len(Lots([(1, 1, 1, 0), (1, 1, 1, 0), (2, 1, 1, 0)]).lots()), 3)
        for days in [[1, 0], [0, 2, 1], [5, 4, 5]]:
            wrong = [(day, 1, 1, 0) for day in days]
            self.raises_given(BadLots, wrong, Lots, wrong)

    def test_any_value(self):
        for wrong in ODD + ["lots", Lots(), {"lots": []}, SOME[0], 1]:
            if wrong != [] and wrong != ():
                self.raises_given(BadLots, wrong, Lots, wrong)

    def test_equal(self):
        self.assertTrue(Lots(SOME) == Lots(tuple(SOME)) and not Lots(SOME) != Lots(SOME))
        self.assertTrue(Lots() == Lots([]))
        for other in [Lots(SOME[:3]), Lots(), Lots(SOME[:3] + [(4, 6, 0, 1)]), Lots([SOME[1], SOME[0], *SOME[2:]]), SOME,
                      None, Lots(SOME).text()]:
            self.assertFalse(Lots(SOME) == other)
            self.assertTrue(Lots(SOME) != other)

    def test_lots_never_change(self):
        given = list(SOME)
        lots = Lots(given)
        given.append((9, 1, 1, 0))
        lots.lots().clear()
        lots.came(9, 1, 1)
        lots.went(5, "first")[2].clear()
        self.same(lots.lots(), SOME)


class Came(Case):

    def test_came(self):
        lots = Lots().came(2, 3, 0)
        self.same(lots.lots(), [(2, 3, 0, 0)])
        self.same(lots.came(day=2, amount=1, cost=5).lots(), [(2, 3, 0, 0), (2, 1, 5, 0)])
        self.same(Lots(SOME).came(4, 1, 1).lots(), SOME + [(4, 1, 1, 0)])

    def test_errors_in_order(self):
        lots = Lots(SOME)
        for wrong in [-1, 3, 0] + NO_INTEGERS:
            self.raises_given(BadDay, wrong, lots.came, wrong, 0, -1)
        for wrong in [-1] + NO_INTEGERS:
            self.raises_given(BadDay, wrong, Lots().came, wrong, 0, -1)
        self.raises(BadDay, {"given": 6}, Lots([(7, 1, 1, 0)]).came, 6, 1, 1)
        for wrong in [0, -1] + NO_INTEGERS:
            self.raises_given(BadAmount, wrong, lots.came, 4, wrong, -1)
        for wrong in [-1] + NO_INTEGERS:
            self.raises_given(BadCost, wrong, lots.came, 4, 1, wrong)


class Went(Case):

    def test_words(self):
        lots = Lots(SOME)
        after, cost, parts = lots.went(amount=5, way="first")
        self.same([after.lots(), cost, parts],
                  [[(1, 3, 10, 3), (1, 5, 9, 3), *SOME[2:]], 14, [(0, 3, 10), (1, 2, 4)]])
        after, cost, parts = lots.went(8, "last")
        self.same([after.lots(), cost, parts],
                  [[SOME[0], (1, 5, 9, 3), SOME[2], (4, 6, 0, 6)], 4, [(1, 2, 4), (3, 6, 0)]])
        after, cost, parts = lots.went(4, "dearest")
        self.same([after.lots(), cost, parts],
                  [[(1, 3, 10, 3), (1, 5, 9, 2), *SOME[2:]], 12, [(0, 3, 10), (1, 1, 2)]])

    def test_all_units(self):
        for word in WORDS:
            after, cost, parts = Lots(SOME).went(13, word)
            self.same([after.units(), after.cost(), cost, parts], [0, 0, 18, [(0, 3, 10), (1, 4, 8), (3, 6, 0)]])

    def test_dearest_is_by_the_lot_whatever_has_gone(self):
        # 7 for 4 units is dearer than 5 for 3, though their next units cost 1 and 2.
        lots = Lots([(0, 3, 5, 1), (0, 4, 7, 0)])
        self.same(lots.went(1, "dearest")[1:], (1, [(1, 1, 1)]))
        # 10 for 6 and 5 for 3 are alike: the one that came first.
        self.same(Lots([(0, 6, 10, 0), (0, 3, 5, 0)]).went(2, "dearest")[2], [(0, 2, 3)])
        self.same(Lots([(0, 3, 5, 0), (0, 6, 10, 0)]).went(4, "dearest")[2], [(0, 3, 5), (1, 1, 1)])
        self.same(Lots([(0, 2, 1, 0), (0, 3, 5, 0), (1, 6, 10, 0), (1, 3, 5, 3)]).went(10, "dearest")[2],
                  [(0, 1, 0), (1, 3, 5), (2, 6, 10)])
        # Quotients of great numbers that lie near to each other.
        lots = Lots([(0, 10 ** 39, 10 ** 39, 0), (0, 10 ** 39 - 1, 10 ** 39, 0)])
        self.same(lots.went(1, "dearest")[2], [(1, 1, 1)])

    def test_lists(self):
        lots = Lots(SOME)
        after, cost, parts = lots.went(5, [(3, 2), (0, 1), (1, 2)])
        self.same([after.lots(), cost, parts],
                  [[(1, 3, 10, 1), (1, 5, 9, 3), SOME[2], (4, 6, 0, 2)], 7, [(0, 1, 3), (1, 2, 4), (3, 2, 0)]])
        self.same(lots.went(3, ((0, 3),))[1:], (10, [(0, 3, 10)]))
        self.same(lots.went(13, [(3, 6), (1, 4), (0, 3)])[1:], (18, [(0, 3, 10), (1, 4, 8), (3, 6, 0)]))

    def test_errors_in_order(self):
        lots = Lots(SOME)
        for wrong in [0, -1] + NO_INTEGERS:
            self.raises_given(BadAmount, wrong, lots.went, wrong, "some")
        ways = ODD + ["First", "firs", "dearest ", 1, {0: 1}, [0, 1], [(0,)], [(0, 1, 1)], [[0, 1]], [(0, 0)], [(0, -1)],
                      [(4, 1)], [(-1, 1)], [(True, 1)], [(0, True)], [("0", 1)], [(0, "1")], [(0, None)], [(0, 1), (0, 2)],
                      [(1, 1), (0, 1), (1, 1)], [(10 ** 30, 1)], (0, 1), [(0, 1), None]]
        for wrong in ways:
            if wrong != [] and wrong != ():
                self.raises_given(BadWay, wrong, lots.went, 14, wrong)
                self.raises_given(BadWay, wrong, lots.went, 1, wrong)
        for way in WORDS + [[(0, 1)], [(0, 14)], [], (), [(0, 99)]]:
            self.raises(NotThere, {"given": 13}, lots.went, 14, way)
            self.raises(NotThere, {"given": 13}, lots.went, 10 ** 40, way)
        for word in WORDS:
            self.raises(NotThere, {"given": 0}, Lots().went, 1, word)
            self.raises(NotThere, {"given": 0}, Lots(SOME[2:3]).went, 1, word)
        for amount, wrong in [(3, [(0, 4)]), (4, [(0, 4)]), (5, [(1, 5)]), (1, [(2, 1)]), (2, [(0, 1)]), (2, [(0, 3)]),
                              (2, [(0, 1), (1, 2)]), (1, []), (1, ()), (13, [(0, 4), (1, 4), (3, 5)])]:
            self.raises_given(BadWay, wrong, lots.went, amount, wrong)
        self.same(lots.lots(), SOME)

    def test_against_single_units(self):
        for seed in range(300):
            pick = random.Random(seed)
            lots = random_lots(pick)
            for word in WORDS:
                for amount in range(1, lots.units() + 1):
                    after, cost, parts = lots.went(amount, word)
                    self.same((after.lots(), cost, parts), went_by_units(lots, amount, word))
                    again = lots.went(amount, [(at, units) for at, units, paid in reversed(parts)])
                    self.same((again[0].lots(), *again[1:]), (after.lots(), cost, parts))
                self.raises(NotThere, {"given": lots.units()}, lots.went, lots.units() + 1, word)

    def test_nothing_is_lost(self):
        for seed in range(300):
            pick = random.Random(seed)
            lots = Lots([(day, amount, cost, 0) for day, amount, cost, gone in random_lots(pick).lots()])
            came = sum(cost for day, amount, cost, gone in lots.lots())
            paid = 0
            while lots.units():
                units = [at for at, lot in enumerate(lots.lots()) for _ in range(lot[1] - lot[3])]
                chosen = pick.sample(units, pick.randrange(1, len(units) + 1))
                way = pick.choice(WORDS + [[(at, chosen.count(at)) for at in set(chosen)]])
                lots, cost, parts = lots.went(len(chosen), way)
                self.assertEqual(cost, sum(part[2] for part in parts))
                paid += cost
                self.assertEqual(paid + lots.cost(), came)
            self.assertEqual(paid, came)

    def test_at_once_or_in_parts(self):
        for seed in range(200):
            pick = random.Random(seed)
            lots = random_lots(pick)
            if lots.units():
                amount = pick.randrange(1, lots.units() + 1)
                for word in WORDS:
                    at_once, cost, parts = lots.went(amount, word)
                    by_parts, paid, left = lots, 0, amount
                    while left:
                        some = pick.randrange(1, left + 1)
                        by_parts, more, told = by_parts.went(some, word)
                        paid, left = paid + more, left - some
                    self.assertTrue(at_once == by_parts)
                    self.same(cost, paid)


class Texts(Case):

    def test_texts(self):
        self.same(Lots(SOME).text(), "1 3 10 0\n1 5 9 1\n4 2 7 2\n4 6 0 0")
        self.same(Lots([(0, 10 ** 39, 10 ** 39 + 1, 0)]).text(), f"0 {10 ** 39} {10 ** 39 + 1} 0")

    def test_read_back(self):
        for seed in range(100):
            lots = random_lots(random.Random(seed))
            self.assertTrue(Lots.read(lots.text()) == lots)
            self.same(Lots.read(text=lots.text()).lots(), lots.lots())
        self.assertTrue(Lots.read("") == Lots())
        self.same(Lots.read("99999 7 0 7").lots(), [(99999, 7, 0, 7)])

    def test_bad_lines(self):
        for wrong in ["", " ", "1 3 10", "1 3 10 0 0", "1 3 10 0 ", " 1 3 10 0", "1  3 10 0", "1 3 10 -0", "-1 3 10 0",
                      "1 0 10 0", "1 3 10 4", "1 3 -1 0", "01 3 10 0", "1 3 10 00", "+1 3 10 0", "1 3 10 x", "1,3,10,0",
                      "1 3 10.0 0", "1_0 3 10 0", "1 3 10 0\r", "1\t3 10 0", "(1, 3, 10, 0)", "0 3 10 0"]:
            self.raises(BadLine, {"line": 2}, Lots.read, "1 3 10 0\n" + wrong)
            self.raises(BadLine, {"line": 3}, Lots.read, "1 3 10 0\n1 3 10 3\n" + wrong + "\nno lot")
            if wrong not in ["", "0 3 10 0"]:
                self.raises(BadLine, {"line": 1}, Lots.read, wrong)
                self.raises(BadLine, {"line": 1}, Lots.read, wrong + "\n1 3 10 0")
        self.raises(BadLine, {"line": 1}, Lots.read, "\n")
        self.raises(BadLine, {"line": 1}, Lots.read, "\n1 3 10 0")
        self.raises(BadLine, {"line": 2}, Lots.read, "1 3 10 0\n")
        self.raises(BadLine, {"line": 3}, Lots.read, "1 3 10 0\n2 3 10 0\n1 3 10 0\n0 3 10 0")

    def test_texts_with_a_sign_changed(self):
        text = Lots([(1, 13, 10, 2), (21, 1, 0, 0)]).text()
        for at in range(len(text)):
            for sign in ["", " ", "0", "-", "a", "\n", text[at] * 2]:
                bent = text[:at] + sign + text[at + 1:]
                try:
                    lots = Lots.read(bent)
                except MarketError as error:
                    self.assertIs(type(error), BadLine)
                else:
                    self.same(lots.text(), bent)


if __name__ == "__main__":
    unittest.main()
