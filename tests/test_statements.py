"""Statements by themselves, and those of all owners [19], [20]."""

import unittest

from evenmarket.errors import BadDay, BadOwner, BadStatement, NotCarried, NotWhole
from evenmarket.journals import Journal
from evenmarket.rows import Row, transfer
from evenmarket.statements import is_statement, joined_statements, rows_of_statements
from tests.checks import Case, ODD
from tests.test_journals import ANN, BOB, CORN, PAY, ROWS, random_rows

FREE = ("money", "free")
GOOD = ("ann", 1, 4, {FREE: 2, ("corn", "free"): 1},
        [(1, 0, ("pay", 0), {FREE: 3}), (1, 2, ("pay", 1), {("money", "cover"): 1}),
         (4, 0, ("settle", 4, "a"), {FREE: -5, ("corn", "free"): 2})],
        {("money", "cover"): 1, ("corn", "free"): 3})
LINE = (1, 0, ("pay", 0), {FREE: 3})


def with_part(value, at, part):
    return value[:at] + (part,) + value[at + 1:]


def with_line(line):
    """The statement with another first line, carried as the line says where it can be."""
    return with_part(GOOD, 4, [line] + GOOD[4][1:])


def all_statements(journal, first, last):
    return [journal.statement(owner, first, last) for owner in journal.owners()]


class Forms(Case):

    def test_statements(self):
        journal = Journal(ROWS)
        for owner in ["ann", "bob", "outside", "house", "cid"]:
            for first in range(6):
                for last in range(first, 6):
                    self.assertIs(is_statement(journal.statement(owner, first, last)), True)
        self.assertIs(is_statement(value=GOOD), True)
        self.assertIs(is_statement(("house", 0, 0, {}, [], {})), True)
        self.assertIs(is_statement(("ann", 3, 10 ** 40, {FREE: -1}, (), {FREE: -1})), True)

    def test_tuples_for_lists_and_never_lists_for_tuples(self):
        self.assertIs(is_statement(with_part(GOOD, 4, tuple(GOOD[4]))), True)
        self.assertIs(is_statement(list(GOOD)), False)
        self.assertIs(is_statement(with_line(list(LINE))), False)
        self.assertIs(is_statement(with_line(with_part(LINE, 2, ["pay", 0]))), False)

    def test_other_lengths(self):
        self.assertIs(is_statement(GOOD[:5]), False)
        self.assertIs(is_statement(GOOD + (None,)), False)
        self.assertIs(is_statement(with_line(LINE[:3])), False)
        self.assertIs(is_statement(with_line(LINE + (1,))), False)

    def test_parts_of_other_kinds(self):
        for odd in ODD:
            self.assertIs(is_statement(odd), False)
            for at in range(6):
                # An empty list or tuple is a list of lines, an empty dict a holding: those are looked at below.
                if odd not in ([], (), {}):
                    self.assertIs(is_statement(with_part(GOOD, at, odd)), False, (at, odd))
            for at in range(4):
                self.assertIs(is_statement(with_line(with_part(LINE, at, odd))), False, (at, odd))
            self.assertIs(is_statement(with_line(odd)), False, odd)
        for at in [0, 1, 2]:
            for odd in [[], (), {}]:
                self.assertIs(is_statement(with_part(GOOD, at, odd)), False)
        for odd in [[], ()]:
            self.assertIs(is_statement(with_part(with_part(GOOD, 3, odd), 4, [])), False)
            self.assertIs(is_statement(("ann", 1, 4, odd, [], {})), False)
            self.assertIs(is_statement(("ann", 1, 4, {}, [], odd)), False)
        self.assertIs(is_statement(("ann", 1, 4, {}, {}, {})), False)

    def test_owners(self):
        self.same([is_statement(with_part(GOOD, 0, owner)) for owner in ["house", "outside", "zz", "money", "Ann"]],
                  [True, True, True, False, False])

    def test_days(self):
        for first, last, fits in [(0, 4, True), (1, 9, True), (2, 4, False), (1, 3, False), (-1, 4, False),
                                  (True, 4, False), (1, 4.0, False), (1, 0, False), (5, 4, False)]:
            self.assertIs(is_statement(("ann", first, last) + GOOD[3:]), fits)
        self.same([is_statement(("ann", 5, last, {}, [], {})) for last in [4, 5, 6]], [False, True, True])

    def test_lines_rise(self):
        one, two, three = GOOD[4]
        for lines in [[two, one, three], [one, three, two], [one, one, two, three], [three, one, two]]:
            holding = {} if lines.count(one) == 1 else {FREE: 3}
            closing = {**GOOD[5], **holding}
            self.assertIs(is_statement(with_part(with_part(GOOD, 4, lines), 5, closing)), False)
        for number, fits in [(1, True), (2, False), (3, False), (-1, False), (True, False), (0.0, False)]:
            self.assertIs(is_statement(with_line(with_part(LINE, 1, number))), fits)

    def test_no_changes_are_empty(self):
        lines = [(1, 0, ("pay", 0), {})]
        self.assertIs(is_statement(("ann", 1, 4, {}, lines, {})), False)
        self.assertIs(is_statement(("ann", 1, 4, {}, [(1, 0, ("pay", 0), {FREE: 1})], {FREE: 1})), True)

    def test_no_integer_is_0(self):
        self.assertIs(is_statement(with_part(GOOD, 3, {**GOOD[3], ("wheat", "free"): 0})), False)
        self.assertIs(is_statement(with_part(GOOD, 5, {**GOOD[5], FREE: 0})), False)
        self.assertIs(is_statement(with_line(with_part(LINE, 3, {FREE: 3, ("wheat", "free"): 0}))), False)

    def test_keys(self):
        for key in [("corn", "cover"), ("house", "free"), ("money", "till"), ("money",), ("money", "free", 1), "money",
                    ("ann", "money", "free"), 1, None, True]:
            self.assertIs(is_statement(("ann", 1, 4, {key: 1}, [], {key: 1})), False, key)
            lines = [(1, 0, ("pay", 0), {key: 1}), (1, 1, ("pay", 0), {key: -1})]
            self.assertIs(is_statement(("ann", 1, 4, {}, lines, {})), False, key)

    def test_closing(self):
        for closing in [{}, {**GOOD[5], FREE: 1}, {("corn", "free"): 3}, {**GOOD[5], ("corn", "free"): 2}, GOOD[3]]:
            self.assertIs(is_statement(with_part(GOOD, 5, closing)), False)

    def test_true_is_no_integer(self):
        self.assertIs(is_statement(("ann", 1, 4, {}, [(1, 0, ("pay", 0), {FREE: True})], {FREE: 1})), False)
        self.assertIs(is_statement(("ann", 1, 4, {}, [(1, 0, ("pay", 0), {FREE: 1})], {FREE: True})), False)
        self.assertIs(is_statement(("ann", 1, 4, {FREE: True}, [], {FREE: 1})), False)
        self.assertIs(is_statement(("ann", 1, 4, {}, [(1, False, ("pay", 0), {FREE: 1})], {FREE: 1})), False)
        self.assertIs(is_statement(("ann", 1, 4, {}, [(True, 0, ("pay", 0), {FREE: 1})], {FREE: 1})), False)


class Joined(Case):

    def test_joined(self):
        for seed in range(10):
            journal = Journal(random_rows(seed, 12))
            for owner in ["ann", "outside", "zed"]:
                for middle in range(4):
                    one, other = journal.statement(owner, 0, middle), journal.statement(owner, middle + 1, 5)
                    self.same(joined_statements(one, other), journal.statement(owner, 0, 5))

    def test_by_names_and_with_tuples(self):
        journal = Journal(ROWS)
        one, other = journal.statement("ann", 1, 1), journal.statement("ann", 2, 4)
        self.same(joined_statements(other=with_part(other, 4, tuple(other[4])), one=with_part(one, 4, tuple(one[4]))),
                  journal.statement("ann", 1, 4))

    def test_no_statements(self):
        good = ("ann", 0, 1, {}, [], {})
        for odd in ODD + [GOOD[:5], list(good), with_part(GOOD, 5, {})]:
            self.raises_given(BadStatement, odd, joined_statements, odd, None)
            self.raises_given(BadStatement, odd, joined_statements, good, odd)

    def test_errors_in_order(self):
        one = ("ann", 0, 1, {}, [], {})
        self.raises(BadOwner, {"given": "bob"}, joined_statements, one, ("bob", 5, 5, {FREE: 1}, [], {FREE: 1}))
        for first in [0, 1, 3, 9]:
            self.raises(BadDay, {"given": first}, joined_statements, one, ("ann", first, 9, {FREE: 1}, [], {FREE: 1}))
        self.raises(NotCarried, {"given": FREE}, joined_statements, one, ("ann", 2, 9, {FREE: 1}, [], {FREE: 1}))

    def test_not_carried(self):
        corn, cover, wheat = ("corn", "free"), ("money", "cover"), ("wheat", "free")
        for closing, opening, key in [
                ({FREE: 1}, {}, FREE), ({}, {FREE: 1}, FREE), ({FREE: 1}, {FREE: 2}, FREE),
                ({FREE: 1, corn: 1}, {FREE: 1}, corn), ({FREE: 1, wheat: 1}, {wheat: 2, FREE: 2}, FREE),
                ({wheat: 1, FREE: 1}, {FREE: 1, cover: 5}, cover), ({wheat: 1, cover: 1}, {cover: 1}, wheat)]:
            one = ("ann", 0, 1, closing, [], closing)
            other = ("ann", 2, 2, opening, [], opening)
            self.raises(NotCarried, {"given": key}, joined_statements, one, other)

    def test_nothing_leaks(self):
        journal = Journal(ROWS)
        one, other = journal.statement("ann", 1, 1), journal.statement("ann", 2, 4)
        joined = joined_statements(one, other)
        for part in (one, other):
            part[3].clear()
            part[5].clear()
            part[4][0][3].clear()
            part[4].clear()
        self.same(joined, journal.statement("ann", 1, 4))
        one, other = journal.statement("ann", 0, 0), journal.statement("ann", 1, 4)
        joined = joined_statements(one, other)
        joined[4][0][3].clear()
        joined[4].clear()
        joined[5].clear()
        self.same(other, journal.statement("ann", 1, 4))


class AllOwners(Case):

    def test_the_very_rows(self):
        for seed in range(20):
            journal = Journal(random_rows(seed, 12))
            for first in range(5):
                for last in range(first, 5):
                    rows = [row for row in journal.rows() if first <= row.day <= last]
                    statements = all_statements(journal, first, last)
                    self.assertEqual(rows_of_statements(statements), rows)
                    self.assertEqual(rows_of_statements(statements=tuple(statements[::-1])), rows)

    def test_none_and_empty_ones(self):
        self.same(rows_of_statements([]), [])
        self.same(rows_of_statements([("ann", 0, 3, {FREE: 1}, [], {FREE: 1})]), [])

    def test_no_statement(self):
        good = ("ann", 0, 1, {}, [], {})
        for odd in ODD + [list(good), GOOD[:5]]:
            self.raises_given(BadStatement, odd, rows_of_statements, [odd, good])
            self.raises_given(BadStatement, odd, rows_of_statements, [good, odd, None])

    def test_other_days_and_owners(self):
        good = ("ann", 1, 3, {}, [], {})
        self.raises(BadDay, {"given": 0}, rows_of_statements, [good, ("ann", 0, 4, {}, [], {}), None])
        self.raises(BadDay, {"given": 4}, rows_of_statements, [good, ("ann", 1, 4, {}, [], {}), None])
        self.raises(BadOwner, {"given": "ann"}, rows_of_statements, [good, ("bob", 1, 3, {}, [], {}), good, None])
        self.raises(BadDay, {"given": 2}, rows_of_statements, [good, ("bob", 2, 3, {}, [], {}), good])

    def test_what_is_wrong_with_an_item_comes_before_what_is_not_whole(self):
        part = ("ann", 1, 3, {}, [(1, 1, ("pay",), {FREE: 1})], {FREE: 1})
        self.raises(BadOwner, {"given": "ann"}, rows_of_statements, [part, part])
        self.raises(NotWhole, {"given": (1, 0)}, rows_of_statements, [part])

    def test_one_left_out(self):
        journal = Journal(ROWS)
        told = {"ann": (1, 0), "bob": (2, 0), "outside": (1, 0)}
        for owner in told:
            statements = [journal.statement(other, 0, 5) for other in told if other != owner]
            self.raises(NotWhole, {"given": told[owner]}, rows_of_statements, statements)

    def test_missing_numbers(self):
        def told(*spots):
            lines = [(day, number, ("pay",), {FREE: 1}) for day, number in spots]
            other = [(day, number, ("pay",), {FREE: -1}) for day, number in spots]
            return [("ann", 0, 9, {}, lines, {FREE: len(spots)}), ("bob", 0, 9, {}, other, {FREE: -len(spots)})]
        self.assertEqual(len(rows_of_statements(told((0, 0), (0, 1), (3, 0), (9, 0)))), 4)
        for spots, missing in [([(0, 1)], (0, 0)), ([(0, 0), (0, 2)], (0, 1)), ([(2, 0), (5, 10 ** 39)], (5, 0)),
                               ([(2, 0), (5, 0), (5, 10 ** 39)], (5, 1)), ([(2, 0), (2, 1), (2, 3), (3, 1)], (2, 2))]:
            self.raises(NotWhole, {"given": missing}, rows_of_statements, told(*spots))

    def test_different_causes(self):
        one = ("ann", 1, 1, {}, [(1, 0, ("pay", 0), {FREE: 1})], {FREE: 1})
        other = ("bob", 1, 1, {}, [(1, 0, ("pay", 1), {FREE: -1})], {FREE: -1})
        self.raises(NotWhole, {"given": (1, 0)}, rows_of_statements, [one, other])

    def test_changes_that_do_not_sum_to_0(self):
        corn = ("corn", "free")
        one = ("ann", 1, 1, {}, [(1, 0, ("pay", 0), {FREE: 1, corn: 1})], {FREE: 1, corn: 1})
        for changes in [{FREE: -1}, {FREE: -1, corn: -2}, {FREE: -2, corn: -1}, {FREE: -1, ("wheat", "free"): -1}]:
            other = ("bob", 1, 1, {}, [(1, 0, ("pay", 0), changes)], changes)
            self.raises(NotWhole, {"given": (1, 0)}, rows_of_statements, [one, other])
        changes = {FREE: -1, corn: -1}
        other = ("bob", 1, 1, {}, [(1, 0, ("pay", 0), changes)], changes)
        self.assertEqual(rows_of_statements([one, other]),
                         [Row(1, ("pay", 0), {ANN: 1, CORN: 1, BOB: -1, ("bob", "corn", "free"): -1})])

    def test_a_gap_comes_in_its_order(self):
        bent = [(1, 0, ("pay",), {FREE: 1}), (2, 1, ("pay",), {FREE: 1})]
        self.raises(NotWhole, {"given": (1, 0)}, rows_of_statements, [("ann", 1, 2, {}, bent, {FREE: 2})])
        whole = [(1, 0, ("cover",), {FREE: -1, ("money", "cover"): 1}), (2, 1, ("pay",), {FREE: 1})]
        self.raises(NotWhole, {"given": (2, 0)}, rows_of_statements,
                    [("ann", 1, 2, {}, whole, {("money", "cover"): 1})])

    def test_nothing_leaks(self):
        journal = Journal([PAY])
        statements = all_statements(journal, 1, 1)
        rows = rows_of_statements(statements)
        statements[0][4][0][3].clear()
        self.assertEqual(rows, [PAY])


if __name__ == "__main__":
    unittest.main()
