"""What settles with more of a unit, and whoever stands still [86] to [88]."""

import itertools
import random
import unittest

from evenmarket.dues import BadOwners, Due, NoDue
from evenmarket.greatest import settled
from evenmarket.helping import least_help, settled_without, shortfalls, staircase, sure
from evenmarket.rounds import Round
from tests.checks import Case
from tests.test_rounds import FOUR, RING, STRANGERS, random_round, told
from tests.test_strikes import NO_OWNERS, greatest_without

DOORS = list(itertools.product(["ann", "bob", "cy", "zoe"], ["iron", "money", "wood", "gold"]))
FREE = Round({("ann", "iron"): 9, ("bob", "iron"): 9, ("cid", "iron"): 9, ("dee", "money"): 40}, [
    Due(1, [("ann", "bob", "iron", 2)]), Due(2, [("bob", "cid", "iron", 3)])])


def rounds(many, most=5):
    for seed in range(many):
        pick = random.Random(seed)
        yield random_round(pick, most=most, great=4 + seed % 20), pick


class Stairs(Case):

    def test_the_ring(self):
        self.same([staircase(held=RING, owner="ann", unit="iron"), staircase(RING, "dee", "iron"), staircase(RING, "zoe", "gold")],
                  [[(0, [1, 2, 3]), (1, [1, 2, 3, 4])], [(0, [1, 2, 3])], [(0, [1, 2, 3])]])
        self.same([least_help(held=RING, owner="ann", unit="iron", number=4), least_help(RING, "dee", "iron", 4),
                   least_help(RING, "dee", "iron", 1), least_help(RING, "zoe", "gold", 4)], [1, None, 0, None])
        self.same(staircase(Round({}, []), "ann", "iron"), [(0, [])])

    def test_steps(self):
        dues = [Due(number, [("ann", "bob", "iron", number)]) for number in [1, 2, 3]]
        held = Round({("ann", "iron"): -10 ** 40}, dues)
        self.same(staircase(held, "ann", "iron"), [
            (0, []), (10 ** 40 + 1, [1]), (10 ** 40 + 3, [1, 2]), (10 ** 40 + 6, [1, 2, 3])])
        self.same([least_help(held, "ann", "iron", number) for number in [1, 2, 3]], [10 ** 40 + more for more in [1, 3, 6]])
        # Two dues that come at once, in a queue that is in another order.
        held = Round({("ann", "iron"): 1}, dues, {("ann", "iron"): [3, 1, 2]})
        self.same(staircase(held, "ann", "iron"), [(0, []), (2, [3]), (3, [1, 3]), (5, [1, 2, 3])])

    def test_against_amounts_one_by_one(self):
        lengths = set()
        for held, pick in rounds(80):
            before = told(held)
            for owner, unit in DOORS:
                expected = [(0, settled(held))]
                for amount in range(1, 30):
                    numbers = settled(held.with_more(owner, unit, amount))
                    if numbers != expected[-1][1]:
                        expected.append((amount, numbers))
                self.same(staircase(held, owner, unit), expected)
                for number in held.numbers():
                    amounts = [amount for amount, numbers in expected if number in numbers]
                    self.same(least_help(held, owner, unit, number), min(amounts) if amounts else None)
                lengths.add(len(expected))
            self.same(told(held), before)
        self.assertTrue({1, 2, 3} <= lengths)

    def test_no_due(self):
        for wrong in STRANGERS:
            self.raises_given(NoDue, wrong, least_help, RING, "ann", "iron", wrong)
            self.raises_given(NoDue, wrong, sure, RING, wrong)

    def test_new_lists(self):
        staircase(RING, "ann", "iron")[0][1].clear()
        self.same(staircase(RING, "ann", "iron")[0], (0, [1, 2, 3]))


class Shortfalls(Case):

    def test_the_ring(self):
        self.same([shortfalls(held=RING), shortfalls(RING.with_more("ann", "iron", 1)), shortfalls(FREE), shortfalls(Round({}, []))],
                  [{("ann", "iron"): 1}, {}, {}, {}])
        self.same(shortfalls(Round({("ann", "iron"): -4, ("bob", "iron"): -10 ** 40, ("cy", "wood"): -3}, [FOUR])), {("ann", "iron"): 5})

    def test_in_order(self):
        dues = [Due(1, [("bob", "ann", "wood", 3), ("ann", "bob", "money", 2)]), Due(2, [("bob", "ann", "gold", 1), ("ann", "bob", "iron", 2)])]
        self.same(shortfalls(Round({}, dues)), {("ann", "iron"): 2, ("ann", "money"): 2, ("bob", "gold"): 1, ("bob", "wood"): 3})

    def test_just_enough(self):
        met = set()
        for held, pick in rounds(200):
            lacks = shortfalls(held)
            self.same(list(lacks), sorted(lacks))
            self.assertTrue(all(amount > 0 for amount in lacks.values()))
            everything = held
            for (owner, unit), amount in lacks.items():
                everything = everything.with_more(owner, unit, amount)
                # Whatever the others have, with one unit less not all dues settle.
                less = held
                for door in DOORS + held.doors():
                    less = less.with_more(*door, 1000 if door != (owner, unit) else 0)
                less = less.with_more(owner, unit, amount - 1)
                self.assertNotEqual(settled(less), held.numbers())
            self.same(settled(everything), held.numbers())
            met.add((len(lacks) > 0, settled(held) == held.numbers()))
        self.assertEqual(met, {(True, False), (False, True)})


class Still(Case):

    def test_the_ring(self):
        self.same([settled_without(RING, ["cid"]), settled_without(held=RING, still=["dee"]), settled_without(RING, ()),
                   settled_without(RING, ["zoe", "dee"]), settled_without(FREE, ["ann"]), settled_without(FREE, ["cid"])],
                  [[], [1, 2, 3], [1, 2, 3], [1, 2, 3], [2], [1, 2]])
        self.same([sure(held=RING, number=1), sure(RING, 4), sure(FREE, 1), sure(FREE, 2)], [["cid"], [], None, None])

    def test_all_lists_of_owners(self):
        met = set()
        for held, pick in rounds(80):
            owners = held.owners()
            lists = [list(some) for many in range(len(owners) + 1) for some in itertools.combinations(owners, many)]
            found = {tuple(still): settled_without(held, still) for still in lists}
            for still in lists:
                self.same(found[tuple(still)], greatest_without(held, still))
                self.same(settled_without(held, still[::-1] + ["zoe"]), found[tuple(still)])
                for more in lists:
                    if set(still) <= set(more):
                        self.assertTrue(set(found[tuple(more)]) <= set(found[tuple(still)]))
            for number in held.numbers():
                expected = None
                for still in lists:
                    if not set(still) & set(held.due(number).owners()) and number not in found[tuple(still)]:
                        expected = still
                        break
                self.same(sure(held, number), expected)
                met.add("None" if expected is None else len(expected))
        self.assertTrue({"None", 0, 1} <= met)

    def test_two_owners_who_must_both_stand_still(self):
        # Either of cy and dee gives ann the iron that 1 needs.
        dues = [Due(1, [("ann", "bob", "iron", 1)]), Due(2, [("dee", "ann", "iron", 1)]), Due(3, [("cy", "ann", "iron", 1)])]
        held = Round({("cy", "iron"): 1, ("dee", "iron"): 1, ("eve", "iron"): 1}, dues)
        self.same([sure(held, 1), sure(held, 2), sure(held, 3)], [["cy", "dee"], None, None])
        self.same([settled_without(held, ["cy"]), settled_without(held, ["dee", "cy"])], [[1, 2], []])
        # Of several lists that are as short, the first one.
        dues = [Due(1, [("ann", "bob", "iron", 2)]), *dues[1:]]
        self.same(sure(Round({("cy", "iron"): 1, ("dee", "iron"): 1}, dues), 1), ["cy"])

    def test_without_others(self):
        held = Round({("ann", "iron"): 1}, [FOUR])
        self.same([sure(held, 4), sure(Round({}, [FOUR]), 4), sure(Round({("zoe", "gold"): 1}, [FOUR]), 4)], [None, [], []])

    def test_owners(self):
        for wrong in NO_OWNERS:
            self.raises_given(BadOwners, wrong, settled_without, RING, wrong)
            self.raises_given(BadOwners, wrong, settled_without, Round({}, []), wrong)


if __name__ == "__main__":
    unittest.main()
