"""The rows of dues that are handed over [89]."""

import random
import unittest

from evenmarket.dues import Due, due_of
from evenmarket.greatest import settled
from evenmarket.handing import rows_of
from evenmarket.journals import Journal
from evenmarket.rounds import Round
from evenmarket.rows import Row
from tests.checks import Case
from tests.test_rounds import random_round


class Rows(Case):

    def test_a_sale(self):
        row = rows_of(day=5, due=due_of(1, ("bob", "ann", "iron", 3, 2)))
        self.assertIsInstance(row, Row)
        self.same([row.day, row.cause, row.postings()], [5, ("settle", 5, 1), {
            ("ann", "iron", "free"): -2, ("ann", "money", "free"): 6, ("bob", "iron", "free"): 2, ("bob", "money", "free"): -6}])

    def test_one_leg(self):
        self.same(str(rows_of(0, Due(10 ** 20, [("cy", "ann", "money", 7)]))),
                  "0 settle 0 100000000000000000000, ann money free 7, cy money free -7")

    def test_four_legs(self):
        due = Due(3, [("ann", "bob", "iron", 2), ("ann", "cy", "iron", 3), ("bob", "ann", "money", 6), ("cy", "dee", "wood", 1)])
        self.same(rows_of(2, due).postings(), {
            ("ann", "iron", "free"): -5, ("ann", "money", "free"): 6, ("bob", "iron", "free"): 2, ("bob", "money", "free"): -6,
            ("cy", "iron", "free"): 3, ("cy", "wood", "free"): -1, ("dee", "wood", "free"): 1})
        # Two givers of one taker.
        due = Due(3, [("ann", "cy", "iron", 2), ("bob", "cy", "iron", 3)])
        self.same(rows_of(2, due).postings(), {("ann", "iron", "free"): -2, ("bob", "iron", "free"): -3, ("cy", "iron", "free"): 5})

    def test_behind_the_rows_stand_the_holdings(self):
        for seed in range(150):
            pick = random.Random(seed)
            held = random_round(pick, great=20)
            numbers = settled(held)
            doors = [(owner, unit) for owner in ["ann", "bob", "cy"] for unit in ["money", "iron", "wood"]]
            opening = {(*door, "free"): held.holds(*door) for door in doors if held.holds(*door)}
            for unit in ["money", "iron", "wood"]:
                outside = -sum(amount for account, amount in opening.items() if account[1] == unit)
                if outside:
                    opening[("outside", unit, "free")] = outside
            rows = [Row(0, ("open", 0), opening)] if opening else []
            pick.shuffle(numbers)
            journal = Journal(rows + [rows_of(1, held.due(number)) for number in numbers])
            behind = held.after(numbers)
            for door in doors:
                self.same(journal.balance((*door, "free")), behind.holds(*door))


if __name__ == "__main__":
    unittest.main()
