"""Names, members, accounts, causes [2], [12]."""

import unittest

from evenmarket.names import is_account, is_cause, is_member, is_name
from tests.checks import Case, ODD, RESERVED, WRONG_NAMES


class Names(Case):

    def test_names(self):
        for value in ["a", "z", "ann", "abcdefgh", "zzzzzzzz", "free", *RESERVED]:
            self.assertIs(is_name(value), True, value)

    def test_no_names(self):
        for value in WRONG_NAMES + ODD + ["ann-", "{", "`", "a\u017f", "\uff41", "aa\u0000"]:
            self.assertIs(is_name(value), False, value)

    def test_members(self):
        for value in ["a", "ann", "abcdefgh", "free", "cover", "fund", "houses", "buy"]:
            self.assertIs(is_member(value), True, value)

    def test_no_members(self):
        for value in RESERVED + WRONG_NAMES + ODD:
            self.assertIs(is_member(value), False, value)

    def test_value_by_name(self):
        self.same([is_name(value="ann"), is_member(value="ann"), is_account(value="ann"), is_cause(value="ann")],
                  [True, True, False, False])


class Accounts(Case):

    def test_accounts(self):
        for owner in ["ann", "house", "outside", "a", "abcdefgh"]:
            for rest in [("money", "free"), ("money", "cover"), ("money", "fund"), ("grain", "free"), ("free", "free")]:
                self.assertIs(is_account((owner, *rest)), True)

    def test_one_part_otherwise(self):
        wrong = [("money", "money", "free"), ("ann", "house", "free"), ("ann", "outside", "free"),
                 ("ann", "grain", "cover"), ("ann", "grain", "fund"), ("ann", "money", "grain"),
                 ("ann", "money", "Free"), ("ann", "money", ""), ("ann", "money"), ("ann", "money", "free", "free"),
                 ("ann",), ["ann", "money", "free"], "ann money free", {"ann": "money"}]
        for value in wrong + ODD:
            self.assertIs(is_account(value), False, value)

    def test_parts_of_other_kinds(self):
        for odd in ODD + WRONG_NAMES:
            self.assertIs(is_account((odd, "money", "free")), False, odd)
            self.assertIs(is_account(("ann", odd, "free")), False, odd)
            self.assertIs(is_account(("ann", "money", odd)), False, odd)


class Causes(Case):

    def test_causes(self):
        for value in [("pay",), ("pay", 0), ("settle", 3, 7), ("adjust", 2, "money"), ("house",), ("money", "outside"),
                      ("a", "b", "c", "d", "e"), ("a", 0, 10 ** 40, 2, 3)]:
            self.assertIs(is_cause(value), True, value)

    def test_lengths(self):
        self.same([is_cause(("a",) * many) for many in range(8)], [False] + [True] * 5 + [False] * 2)
        self.same([is_cause(("a", 1, 2, 3, 4)), is_cause(("a", 1, 2, 3, 4, 5))], [True, False])

    def test_items_otherwise(self):
        for odd in [-1, True, False, None, "", "abcdefghi", "A", ("a",), ["a"], {}, 1.0, b"a"]:
            self.assertIs(is_cause(("a", odd)), False, odd)
            self.assertIs(is_cause(("a", 1, "b", 2, odd)), False, odd)
            self.assertIs(is_cause((odd, "a")), False, odd)

    def test_first_is_a_name(self):
        self.same([is_cause((0,)), is_cause((3, "settle"))], [False, False])

    def test_other_kinds(self):
        for value in ODD + [["pay", 1], "pay", {"pay": 1}]:
            self.assertIs(is_cause(value), False, value)


if __name__ == "__main__":
    unittest.main()
