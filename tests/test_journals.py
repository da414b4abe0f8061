"""Journals, balances, statements of them, differences, texts [16] to [18], [21], [22]."""

import itertools
import random
import unittest

from evenmarket.errors import BadAccount, BadDay, BadLine, BadOwner, BadRow, BadUnit
from evenmarket.journals import Journal, adjusting, differences
from evenmarket.rows import Row, transfer
from tests.checks import Case, ODD, WRONG_DAYS

ANN = ("ann", "money", "free")
BOB = ("bob", "money", "free")
COVER = ("ann", "money", "cover")
CORN = ("ann", "corn", "free")
OUT = ("outside", "money", "free")
FARM = ("outside", "corn", "free")
HOUSE = ("house", "money", "free")

PAY = transfer(1, ("pay", 0), OUT, ANN, 9)
GROW = transfer(1, ("pay", 1), FARM, CORN, 6)
LEND = transfer(2, ("lend", 2), ANN, BOB, 4)
PUT = transfer(2, ("cover", 2, "ann"), ANN, COVER, 3)
SELL = Row(4, ("settle", 4, 3), {CORN: -2, ("bob", "corn", "free"): 2, ANN: 4, BOB: -4})
ROWS = [PAY, GROW, LEND, PUT, SELL]
# A day as the default may be left out, but None is no day where there is none.
WRONG_OR_LATER = [day for day in WRONG_DAYS if day is not None]
WRONG_OWNERS = ["money", "", "Ann", "abcdefghi", None, True, 1, ("ann",), ["ann"], {}]


def random_rows(seed, many):
    """Rows of few days and owners, in no order."""
    pick = random.Random(seed)
    accounts = [(owner, unit, place) for owner in ["ann", "bob", "cid", "house", "outside"]
                for unit, place in [("money", "free"), ("money", "cover"), ("corn", "free"), ("wheat", "free")]]
    rows = []
    for number in range(many):
        giver = pick.choice(accounts)
        taker = pick.choice([account for account in accounts if account[1] == giver[1] and account != giver])
        rows.append(transfer(pick.randrange(4), ("pay", number), giver, taker, pick.randrange(1, 5)))
    return rows


def sums(rows):
    """What rows give each account, as far as it is not 0."""
    found = {}
    for row in rows:
        for account, number in row.postings().items():
            found[account] = found.get(account, 0) + number
    return {account: found[account] for account in sorted(found) if found[account] != 0}


class Journals(Case):

    def test_by_days(self):
        for order in itertools.permutations(ROWS):
            journal = Journal(list(order))
            days = [row.day for row in journal.rows()]
            self.assertEqual(days, [1, 1, 2, 2, 4])
            for day in [1, 2, 4]:
                self.assertEqual(journal.rows(day), [row for row in order if row.day == day])

    def test_no_rows(self):
        for journal in [Journal(), Journal([]), Journal(rows=())]:
            self.same([len(journal), journal.rows(), journal.rows(3), journal.cut(), journal.owners(), journal.units(),
                       journal.days(), journal.balance(ANN), journal.total("money"), journal.text()],
                      [0, [], [], {}, [], [], [], 0, 0, ""])
            self.same(journal.statement("ann", 0, 5), ("ann", 0, 5, {}, [], {}))
            self.assertTrue(journal.turned() == journal)

    def test_a_tuple_of_rows(self):
        self.assertTrue(Journal(tuple(ROWS)) == Journal(ROWS))
        self.assertTrue(Journal().with_rows(tuple(ROWS)) == Journal(ROWS))

    def test_bad_rows(self):
        for odd in ODD + [str(PAY), Journal([PAY])]:
            self.raises_given(BadRow, odd, Journal, [PAY, odd, None])
            self.raises_given(BadRow, odd, Journal([PAY]).with_rows, [odd, 7])
        self.raises_given(BadRow, ODD, Journal, (ODD,))

    def test_rows_of_a_day(self):
        journal = Journal(ROWS)
        self.assertEqual(journal.rows(1), [PAY, GROW])
        self.assertEqual(journal.rows(day=4), [SELL])
        self.assertEqual([journal.rows(0), journal.rows(3), journal.rows(10 ** 40)], [[], [], []])
        self.assertEqual(journal.rows(None), ROWS)
        for wrong in WRONG_OR_LATER:
            self.raises_given(BadDay, wrong, journal.rows, wrong)

    def test_caused(self):
        again = transfer(4, ("pay", 0), OUT, BOB, 1)
        journal = Journal([again] + ROWS)
        self.assertEqual(journal.caused(("pay", 0)), [PAY, again])
        self.assertEqual(journal.caused(cause=("lend", 2)), [LEND])
        self.assertEqual(journal.caused(("lend", 3)), [])
        self.assertEqual(journal.caused(("pay",)), [])

    def test_with_rows(self):
        first = Journal([PAY, SELL, LEND])
        later = first.with_rows([PUT, GROW])
        self.assertEqual(later.rows(), [PAY, GROW, LEND, PUT, SELL])
        self.assertEqual(first.rows(), [PAY, LEND, SELL])
        self.assertEqual(first.with_rows(rows=[]).rows(), first.rows())
        self.same([len(first), len(later)], [3, 5])

    def test_turned(self):
        turned = Journal(ROWS).turned()
        self.assertEqual([str(row) for row in turned.rows()], [str(row.turned(row.day, row.cause)) for row in ROWS])
        self.assertTrue(turned.turned() == Journal(ROWS))
        self.assertEqual(turned.balance(ANN), -Journal(ROWS).balance(ANN))

    def test_equal(self):
        journal = Journal(ROWS)
        self.assertTrue(journal == Journal([SELL, PAY, GROW, LEND, PUT]))
        self.assertFalse(journal != Journal(ROWS))
        for other in [Journal([GROW, PAY, LEND, PUT, SELL]), Journal(ROWS[:4]), Journal(), ROWS, None, journal.text()]:
            self.assertFalse(journal == other)
            self.assertTrue(journal != other)

    def test_nothing_leaks(self):
        rows = list(ROWS)
        journal = Journal(rows)
        rows.clear()
        journal.rows().clear()
        journal.rows(1).append(PAY)
        journal.caused(("pay", 0)).clear()
        journal.cut()[ANN] = 100
        for told in (journal.owners(), journal.units(), journal.days()):
            told.clear()
        owner, first, last, opening, lines, closing = journal.statement("ann", 2, 4)
        opening.clear()
        lines[0][3].clear()
        lines.clear()
        closing[("money", "free")] = 7
        self.assertTrue(journal == Journal(ROWS))
        self.same(journal.cut(), sums(ROWS))
        self.same(journal.owners(), ["ann", "bob", "outside"])
        self.assertEqual(journal.statement("ann", 2, 4)[4][0][3], {("money", "free"): -4})
        more = [PUT]
        longer = journal.with_rows(more)
        more.clear()
        self.assertEqual(len(longer), 6)


class Balances(Case):

    def test_balance(self):
        journal = Journal(ROWS)
        self.same([journal.balance(ANN, day) for day in range(6)], [0, 9, 2, 2, 6, 6])
        self.same([journal.balance(ANN), journal.balance(account=COVER, day=None), journal.balance(OUT, day=10 ** 40)],
                  [6, 3, -9])
        self.same([journal.balance(("cid", "wheat", "free")), journal.balance(BOB), journal.balance(BOB, 2)], [0, 0, 4])

    def test_balance_errors(self):
        journal = Journal(ROWS)
        for wrong in [("ann", "corn", "cover"), ("money", "money", "free"), list(ANN), "ann", None, True, 1, {}]:
            self.raises_given(BadAccount, wrong, journal.balance, wrong, "day")
        for wrong in WRONG_OR_LATER:
            self.raises_given(BadDay, wrong, journal.balance, ANN, wrong)

    def test_cut(self):
        journal = Journal(ROWS)
        for day in range(6):
            self.same(journal.cut(day), sums([row for row in ROWS if row.day <= day]))
        self.same(journal.cut(day=None), sums(ROWS))
        self.assertNotIn(BOB, journal.cut())
        for wrong in WRONG_OR_LATER:
            self.raises_given(BadDay, wrong, journal.cut, wrong)

    def test_all_balances_of_a_unit_sum_to_0(self):
        for seed in range(20):
            journal = Journal(random_rows(seed, 15))
            for day in [None, 0, 1, 2, 3]:
                for unit in ["money", "corn", "wheat"]:
                    self.same(journal.total(unit, day=day), 0)
                self.same(journal.cut(day), sums([row for row in journal.rows() if day is None or row.day <= day]))

    def test_owners_units_days(self):
        journal = Journal([SELL, LEND, GROW])
        self.same([journal.owners(), journal.units(), journal.days()],
                  [["ann", "bob", "outside"], ["corn", "money"], [1, 2, 4]])

    def test_total(self):
        journal = Journal(ROWS)
        self.same([journal.total("money"), journal.total("corn"), journal.total("wheat")], [0, 0, 0])
        self.same([journal.total("money", owners=["ann", "bob"]), journal.total(unit="money", owners=("ann",))], [9, 9])
        self.same([journal.total("money", places=["cover", "fund"]), journal.total("money", places=["free"])], [3, -3])
        self.same([journal.total("money", owners=["ann"], places=["free"], day=1),
                   journal.total("money", owners=["ann"], places=["free"], day=2),
                   journal.total("corn", owners=["ann"], places=["free"], day=None),
                   journal.total("corn", owners=["ann"], places=["cover"])], [9, 2, 4, 0])
        self.same([journal.total("money", owners=[]), journal.total("money", places=[]),
                   journal.total("money", owners=(), day=3)], [0, 0, 0])
        self.same(journal.total("money", owners=["ann", "ann", "zed", "money"]), 9)
        self.same(journal.total("money", owners=["outside"], day=0), 0)

    def test_total_errors(self):
        journal = Journal(ROWS)
        for wrong in ["house", "outside", "", "Corn", "abcdefghi", None, True, 1, ("corn",), ["corn"], {}]:
            self.raises_given(BadUnit, wrong, journal.total, wrong, day="day")
        for wrong in WRONG_OR_LATER:
            self.raises_given(BadDay, wrong, journal.total, "corn", day=wrong)
        with self.assertRaises(TypeError):
            journal.total("money", ["ann"])


class Statements(Case):

    def test_of_a_member(self):
        journal = Journal(ROWS)
        self.same(journal.statement("ann", 2, 4), (
            "ann", 2, 4, {("corn", "free"): 6, ("money", "free"): 9},
            [(2, 0, ("lend", 2), {("money", "free"): -4}),
             (2, 1, ("cover", 2, "ann"), {("money", "cover"): 3, ("money", "free"): -3}),
             (4, 0, ("settle", 4, 3), {("corn", "free"): -2, ("money", "free"): 4})],
            {("corn", "free"): 4, ("money", "cover"): 3, ("money", "free"): 6}))

    def test_numbers_count_rows_of_others(self):
        journal = Journal([LEND, PUT, transfer(2, ("lend", 9), OUT, BOB, 1)])
        self.assertEqual([line[:2] for line in journal.statement("bob", 0, 9)[4]], [(2, 0), (2, 2)])
        self.assertEqual([line[:2] for line in journal.statement("outside", 0, 9)[4]], [(2, 2)])

    def test_of_house_outside_and_nobody(self):
        journal = Journal(ROWS + [transfer(3, ("mark", 3, "gas"), ANN, HOUSE, 1)])
        self.assertEqual(journal.statement("house", 3, 3), (
            "house", 3, 3, {}, [(3, 0, ("mark", 3, "gas"), {("money", "free"): 1})], {("money", "free"): 1}))
        self.assertEqual(journal.statement(owner="outside", first=2, last=9), (
            "outside", 2, 9, {("corn", "free"): -6, ("money", "free"): -9}, [],
            {("corn", "free"): -6, ("money", "free"): -9}))
        self.assertEqual(journal.statement("cid", 0, 0), ("cid", 0, 0, {}, [], {}))

    def test_balances_that_come_to_0(self):
        self.assertEqual(Journal(ROWS).statement("bob", 4, 4)[5], {("corn", "free"): 2})
        self.assertEqual(Journal(ROWS).statement("bob", 5, 6)[3], {("corn", "free"): 2})

    def test_one_day(self):
        self.assertEqual(Journal(ROWS).statement("ann", 1, 1)[3:],
                         ({}, [(1, 0, ("pay", 0), {("money", "free"): 9}), (1, 1, ("pay", 1), {("corn", "free"): 6})],
                          {("corn", "free"): 6, ("money", "free"): 9}))

    def test_statement_errors(self):
        journal = Journal(ROWS)
        for wrong in WRONG_OWNERS:
            self.raises_given(BadOwner, wrong, journal.statement, wrong, None, None)
        for wrong in WRONG_DAYS:
            self.raises_given(BadDay, wrong, journal.statement, "cid", wrong, None)
            self.raises_given(BadDay, wrong, journal.statement, "ann", 0, wrong)
        self.raises(BadDay, {"given": 2}, journal.statement, "ann", 3, 2)
        self.raises(BadDay, {"given": True}, journal.statement, "ann", 0, True)


class Differences(Case):

    def test_no_difference(self):
        journal = Journal(ROWS)
        other = Journal([row.moved(row.day, ("other",)) for row in ROWS])
        self.same([differences(journal, other), differences(journal, other, 2), adjusting(journal, other, 2)], [{}, {}, []])

    def test_one_unit(self):
        one, other = Journal([PAY, GROW]), Journal([PAY, GROW, LEND, PUT])
        self.same(differences(one, other), {COVER: 3, ANN: -7, BOB: 4})
        self.same(differences(other, one), {COVER: -3, ANN: 7, BOB: -4})
        self.same([differences(one, other, 1), differences(one=one, other=other, day=None)],
                  [{}, differences(one, other)])
        self.assertEqual([str(row) for row in adjusting(one, other, 3)],
                         ["3 adjust 3 money, ann money cover 3, ann money free -7, bob money free 4"])
        self.assertEqual(adjusting(one, other, 1), [])

    def test_two_units(self):
        rows = adjusting(one=Journal(), other=Journal(ROWS), day=4)
        self.assertEqual([(row.day, row.cause, row.units()) for row in rows],
                         [(4, ("adjust", 4, "corn"), ["corn"]), (4, ("adjust", 4, "money"), ["money"])])

    def test_adjusted(self):
        for seed in range(30):
            one, other = Journal(random_rows(seed, 8)), Journal(random_rows(seed + 100, 8))
            for day in range(5):
                rows = adjusting(one, other, day)
                self.same(one.with_rows(rows).cut(day), other.cut(day))
                self.assertEqual([row.cause for row in rows],
                                 [("adjust", day, unit) for unit in ["corn", "money", "wheat"]
                                  if any(account[1] == unit for account in differences(one, other, day))])
                self.assertTrue(all(row.day == day for row in rows))
            told = differences(one, other)
            self.assertEqual(list(told), sorted(told))
            self.assertEqual(told, {account: other.balance(account) - one.balance(account)
                                    for account in {**one.cut(), **other.cut()}
                                    if other.balance(account) != one.balance(account)})

    def test_errors(self):
        one, other = Journal(), Journal(ROWS)
        for wrong in WRONG_OR_LATER:
            self.raises_given(BadDay, wrong, differences, one, other, wrong)
            self.raises_given(BadDay, wrong, differences, other, other, wrong)
        for wrong in WRONG_DAYS:
            self.raises_given(BadDay, wrong, adjusting, one, other, wrong)
            self.raises_given(BadDay, wrong, adjusting, other, other, wrong)


class Texts(Case):

    def test_text(self):
        self.same(Journal([LEND, PAY]).text(), str(PAY) + "\n" + str(LEND))
        self.same([Journal().text(), Journal([SELL]).text()], ["", str(SELL)])

    def test_read_back(self):
        for journal in [Journal(), Journal(ROWS), Journal([PAY, PAY]), Journal(random_rows(7, 30))]:
            self.assertTrue(Journal.read(journal.text()) == journal)
            self.same(Journal.read(text=journal.text()).text(), journal.text())

    def test_bad_lines(self):
        pay, lend, sell = str(PAY), str(LEND), str(SELL)
        for text, line in [("\n", 1), (" ", 1), (pay + "\n", 2), ("\n" + pay, 1), (pay + "\n\n" + lend, 2),
                           (lend + "\n" + pay, 2), (pay + "\n" + sell + "\n" + lend + "\n" + pay, 3),
                           (pay + "\nhello\n" + pay + "x", 2), (pay + "\r\n" + lend, 1), (pay + " \n" + lend, 1),
                           (pay + "\n" + lend.replace("-4", "-04"), 2), (pay + "\n" + lend.replace("-4", "-0"), 2),
                           (pay + "\n " + lend, 2), (pay + "\n" + lend + "\n+" + sell, 3), ("hello", 1),
                           (lend + "\n" + pay.replace("9", "8") + "\nhello", 2), (pay + "\f" + lend, 1)]:
            with self.subTest(text=text):
                self.raises(BadLine, {"line": line}, Journal.read, text)


if __name__ == "__main__":
    unittest.main()
