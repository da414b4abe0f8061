"""Rows, rows of rows, and their texts [13] to [15]."""

import unittest

from evenmarket.errors import BadAccount, BadAmount, BadCause, BadDay, BadPostings, BadText, MarketError, Unbalanced
from evenmarket.rows import Row, transfer
from tests.checks import Case, ODD, WRONG_DAYS

ANN = ("ann", "money", "free")
BOB = ("bob", "money", "free")
COVER = ("ann", "money", "cover")
WHEAT = ("ann", "wheat", "free")
PAID = {BOB: 5, ANN: -5}
TRADED = {("bob", "corn", "free"): 2, ("ann", "corn", "free"): -2, BOB: -60, ANN: 60}
WRONG_CAUSES = [(), ("a", 1, 2, 3, 4, 5), (1,), ("pay", -1), ("pay", True), ["pay", 1], "pay", None, {}, ("Pay",), 3]
WRONG_ACCOUNTS = [("money", "money", "free"), ("ann", "grain", "cover"), ("ann", "money"), ["ann", "money", "free"],
                  "ann", None, True, 0, {}, ("ann", "house", "free"), ("ann", "money", "till")]


class Rows(Case):

    def test_one_unit(self):
        row = Row(0, ("pay", 0), PAID)
        self.same([row.day, row.cause, row.owners(), row.units()], [0, ("pay", 0), ["ann", "bob"], ["money"]])
        self.same([list(row.postings()), row.postings()], [[ANN, BOB], {ANN: -5, BOB: 5}])

    def test_two_units(self):
        row = Row(12, ("settle", 12, 3), TRADED)
        self.same(row.units(), ["corn", "money"])
        self.same(row.owners(), ["ann", "bob"])
        self.same(list(row.postings().items()), sorted(TRADED.items()))

    def test_accounts_of_one_owner(self):
        row = Row(1, ("cover", 1, "ann"), {ANN: -3, COVER: 2, ("ann", "money", "fund"): 1})
        self.same([row.owners(), row.units()], [["ann"], ["money"]])

    def test_posting(self):
        row = Row(0, ("pay", 0), PAID)
        self.same([row.posting(ANN), row.posting(account=BOB), row.posting(COVER)], [-5, 5, 0])
        for wrong in WRONG_ACCOUNTS:
            self.raises_given(BadAccount, wrong, row.posting, wrong)

    def test_large_numbers(self):
        large = 10 ** 40 - 1
        row = Row(large, ("pay", large), {ANN: large, BOB: -large})
        self.same([row.day, row.posting(BOB)], [large, -large])

    def test_by_names(self):
        self.assertTrue(Row(postings=PAID, cause=("pay", 0), day=1) == Row(1, ("pay", 0), PAID))

    def test_bad_days(self):
        for wrong in WRONG_DAYS:
            self.raises_given(BadDay, wrong, Row, wrong, None, None)

    def test_bad_causes(self):
        for wrong in WRONG_CAUSES:
            self.raises_given(BadCause, wrong, Row, 0, wrong, None)

    def test_bad_postings(self):
        keys = [{wrong: 1, ANN: -1} for wrong in WRONG_ACCOUNTS if not isinstance(wrong, (list, dict))]
        for wrong in keys + [{}, None, True, 0, "ann", [], [ANN, 1], (), [(ANN, 1)], {ANN: 0}, {ANN: 5, BOB: -5, COVER: 0}]:
            self.raises_given(BadPostings, wrong, Row, 0, ("pay",), wrong)
        for odd in ODD:
            wrong = {ANN: odd, BOB: -1}
            self.raises_given(BadPostings, wrong, Row, 0, ("pay",), wrong)

    def test_true_is_no_integer(self):
        wrong = {ANN: True, BOB: -1}
        self.raises_given(BadPostings, wrong, Row, 0, ("pay",), wrong)

    def test_unbalanced(self):
        self.raises(Unbalanced, {"given": "money", "off": -5}, Row, 0, ("pay",), {ANN: -5})
        self.raises(Unbalanced, {"given": "corn", "off": 1}, Row, 0, ("pay",), {**TRADED, ("cid", "corn", "free"): 1})
        self.raises(Unbalanced, {"given": "money", "off": 7}, Row, 0, ("pay",), {**TRADED, ("cid", "money", "free"): 7})
        self.raises(Unbalanced, {"given": "corn", "off": 2}, Row, 0, ("pay",),
                    {WHEAT: 4, BOB: 3, ("ann", "corn", "free"): 2})

    def test_units_do_not_balance_one_another(self):
        self.raises(Unbalanced, {"given": "money", "off": 4}, Row, 0, ("pay",), {ANN: 4, WHEAT: -4})

    def test_equal(self):
        row = Row(1, ("pay", 0), PAID)
        self.assertTrue(row == Row(1, ("pay", 0), {ANN: -5, BOB: 5}))
        self.assertFalse(row != Row(1, ("pay", 0), {ANN: -5, BOB: 5}))
        for other in [Row(2, ("pay", 0), PAID), Row(1, ("pay", 1), PAID), Row(1, ("pay", 0), {ANN: -4, BOB: 4}),
                      Row(1, ("pay", 0), {ANN: -5, COVER: 5}), str(row), PAID, None, (1, ("pay", 0), PAID), object()]:
            self.assertFalse(row == other)
            self.assertTrue(row != other)

    def test_nothing_leaks(self):
        postings = dict(PAID)
        row = Row(1, ("pay", 0), postings)
        postings[ANN] = 0
        postings[COVER] = 7
        row.postings()[BOB] = 9
        row.postings().clear()
        row.owners().append("cid")
        row.units().clear()
        self.assertTrue(row == Row(1, ("pay", 0), PAID))
        self.same([row.owners(), row.units(), list(row.postings())], [["ann", "bob"], ["money"], [ANN, BOB]])

    def test_arguments_stay(self):
        postings = {BOB: 5, ANN: -5}
        Row(1, ("pay", 0), postings)
        self.same(list(postings.items()), [(BOB, 5), (ANN, -5)])


class RowsOfRows(Case):

    def test_turned_and_moved(self):
        row = Row(3, ("settle", 3, 7), TRADED)
        self.assertTrue(row.turned(4, ("bust", 1)) == Row(4, ("bust", 1), {key: -TRADED[key] for key in TRADED}))
        self.assertTrue(row.moved(day=5, cause=("pay",)) == Row(5, ("pay",), TRADED))
        self.assertTrue(row.turned(cause=("a",), day=0).turned(3, ("settle", 3, 7)) == row)
        self.assertTrue(row == Row(3, ("settle", 3, 7), TRADED))

    def test_their_errors(self):
        row = Row(3, ("settle", 3, 7), TRADED)
        for made in (row.turned, row.moved):
            for wrong in WRONG_DAYS:
                self.raises_given(BadDay, wrong, made, wrong, None)
            for wrong in WRONG_CAUSES:
                self.raises_given(BadCause, wrong, made, 3, wrong)

    def test_transfer(self):
        row = transfer(2, ("pay", 1), ANN, BOB, 5)
        self.assertTrue(row == Row(2, ("pay", 1), PAID))
        self.assertTrue(transfer(amount=5, taker=BOB, giver=ANN, cause=("pay", 1), day=2) == row)
        self.same(transfer(0, ("cover", 0), ANN, COVER, 1).postings(), {COVER: 1, ANN: -1})

    def test_transfer_to_itself_or_another_unit(self):
        self.raises_given(BadAccount, ANN, transfer, 0, ("pay",), ANN, ANN, 1)
        self.raises_given(BadAccount, WHEAT, transfer, 0, ("pay",), ANN, WHEAT, 1)
        self.raises_given(BadAccount, BOB, transfer, None, None, WHEAT, BOB, None)

    def test_transfer_of_no_accounts(self):
        for wrong in WRONG_ACCOUNTS:
            self.raises_given(BadAccount, wrong, transfer, None, None, wrong, None, None)
            self.raises_given(BadAccount, wrong, transfer, None, None, ANN, wrong, None)

    def test_transfer_of_no_amount(self):
        for wrong in [0, -1, True, False, None, "1", (), [], {}, 1.0]:
            self.raises_given(BadAmount, wrong, transfer, None, None, ANN, BOB, wrong)

    def test_transfer_checks_day_and_cause_last(self):
        for wrong in WRONG_DAYS:
            self.raises_given(BadDay, wrong, transfer, wrong, None, ANN, BOB, 1)
        for wrong in WRONG_CAUSES:
            self.raises_given(BadCause, wrong, transfer, 0, wrong, ANN, BOB, 1)


TEXT = "3 settle 3 7, ann grain free -5, bob grain free 5"
TWO = "0 trade, ann corn free -2, ann money free 60, bob corn free 2, bob money free -60"

NO_ROWS = [
    "", " ", "3", "3 settle", "3 settle 3 7", TEXT + " ", " " + TEXT, TEXT + "\n", "\n" + TEXT, TEXT + ",", TEXT + ", ",
    TEXT.replace(", ", ","), TEXT.replace(", ", ",  "), TEXT.replace(", ", " , "), TEXT.replace(" ", "  "),
    TEXT.replace("3 settle", "3  settle"), TEXT.replace("3 settle", "03 settle"), TEXT.replace("3 settle", "+3 settle"),
    TEXT.replace("3 settle", "-3 settle"), TEXT.replace("3 settle", "settle"), TEXT.replace("3 settle", "settle 3"),
    TEXT.replace("3 7", "3 07"), TEXT.replace("3 7", "3 -7"), TEXT.replace("3 7", "3 +7"), TEXT.replace("3 7", "3 -0"),
    TEXT.replace("3 7", "3 7 8 9 1"), TEXT.replace("settle 3", "settle 00"),
    TEXT.replace("free -5", "free -05"), TEXT.replace("free 5", "free +5"), TEXT.replace("free 5", "free 05"),
    TEXT.replace("free 5", "free 6"), TEXT.replace("free -5", "free 5"), TEXT.replace("free 5", "free"),
    TEXT.replace("free 5", "free 5 5"), TEXT.replace("bob grain", "grain bob"), TEXT.replace("bob grain", "bob"),
    TEXT.replace("bob grain free", "bob free grain"), TEXT.replace("bob", "money"), TEXT.replace("bob", "Bob"),
    TEXT.replace("grain", "house"), TEXT.replace("free", "cover"), TEXT.replace("ann grain free -5, ", ""),
    "3 settle 3 7, bob grain free 5, ann grain free -5", TEXT + ", bob grain free 5", TEXT + ", cid grain free 0",
    TEXT + ", cid grain free -0", "3 settle 3 7, ann grain free -5, ann grain free -5, bob grain free 5",
    "3 settle 3 7, ann grain free -0, bob grain free 0", "3 settle 3 7, ann grain free --5, bob grain free 5",
    TEXT.replace("3 7,", "3 7,\n"), TEXT.replace(" ", "\n"), TEXT.replace("-5", "\u22125"), TEXT.replace("5", "\u0665"),
    TEXT.replace("3 settle", "\u00b3 settle"), TEXT.replace("3 settle", "3_0 settle"), TEXT.replace("-5", "- 5"),
    TEXT.replace("free 5", "free 5.0"), TEXT.replace("free 5", "free 0x5"), TEXT.replace("settle", "settlement"),
    TEXT + "; " + TEXT, ", " + TEXT, "settle", "3, ann grain free -5, bob grain free 5",
    "3 , ann grain free -5, bob grain free 5", TWO + ", cid money free 1",
]


class Texts(Case):

    def test_texts(self):
        self.same(str(Row(3, ("settle", 3, 7), {("bob", "grain", "free"): 5, ("ann", "grain", "free"): -5})), TEXT)
        self.same(str(Row(0, ("trade",), TRADED)), TWO)
        self.same(str(Row(10, ("adjust", 10, "money"), {COVER: -10, ANN: 10})),
                  "10 adjust 10 money, ann money cover -10, ann money free 10")

    def test_read_back(self):
        large = 10 ** 40 - 1
        for row in [Row(3, ("settle", 3, 7), TRADED), Row(0, ("trade",), PAID), Row(3, ("settle", 3, 7, 8, 9), PAID),
                    Row(large, ("a", 0, "money", large, "b"), {ANN: -large, ("outside", "money", "free"): large}),
                    transfer(0, ("fund", 0), ANN, ("ann", "money", "fund"), 100)]:
            self.assertTrue(Row.read(str(row)) == row)
            self.assertTrue(Row.read(text=str(row)) == row)
            self.same(str(Row.read(str(row))), str(row))

    def test_no_texts_of_rows(self):
        for text in NO_ROWS:
            with self.subTest(text=text):
                self.assertNotIn(text, [TEXT, TWO])
                self.raises(BadText, {}, Row.read, text)

    def test_values_that_are_no_strings(self):
        for odd in ODD + [Row.read(TEXT), b"3 settle 3 7"]:
            self.raises(BadText, {}, Row.read, odd)

    def test_texts_with_a_sign_changed(self):
        for at in range(len(TEXT)):
            for sign in ["", " ", "0", "-", ",", "a", "\n", TEXT[at] * 2]:
                text = TEXT[:at] + sign + TEXT[at + 1:]
                try:
                    row = Row.read(text)
                except MarketError as error:
                    self.assertIs(type(error), BadText)
                else:
                    self.same(str(row), text)


if __name__ == "__main__":
    unittest.main()
