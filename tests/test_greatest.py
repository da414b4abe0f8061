"""Which dues go together, the greatest set, all sets [79] to [81]."""

import inspect
import itertools
import random
import unittest

from evenmarket.dues import Due
from evenmarket.greatest import all_sets, failed, goes_together, settled
from evenmarket.rounds import Round
from tests.checks import Case, ODD
from tests.test_dues import random_due
from tests.test_rounds import FOUR, ONE, RING, STRANGERS, THREE, TWO, random_round

UNITS = list(itertools.product(["ann", "bob", "cy"], ["money", "iron", "wood"]))


def fits_together(held, numbers):
    """What [79] says of a list of different numbers of dues."""
    dues = [held.due(number) for number in numbers]
    for owner, unit in held.doors():
        queue = held.queue(owner, unit)
        there = [number in numbers for number in queue]
        if there != sorted(there, reverse=True):
            return False
        gives = sum(leg[3] for due in dues for leg in due.legs if (leg[0], leg[2]) == (owner, unit))
        takes = sum(leg[3] for due in dues for leg in due.legs if (leg[1], leg[2]) == (owner, unit))
        if gives and held.holds(owner, unit) + takes - gives < 0:
            return False
    return True


def sets_of(held):
    """All sets that go together, by a look at all sets."""
    numbers = held.numbers()
    return [list(some) for many in range(len(numbers) + 1) for some in itertools.combinations(numbers, many)
            if fits_together(held, some)]


class Together(Case):

    def test_the_ring(self):
        self.same([goes_together(RING, value) for value in [[1, 2, 3], (3, 1, 2), [], [1, 2], [4], [1, 2, 3, 4], [1]]],
                  [True, True, True, False, False, False, False])
        self.assertIs(goes_together(held=RING, value=[2, 3, 1]), True)

    def test_values_that_are_no_such_list(self):
        free = Round({("ann", "iron"): 9, ("bob", "iron"): 9}, [Due(0, FOUR.legs), Due(1, FOUR.legs), FOUR])
        for held in [RING, free]:
            for wrong in [wrong for wrong in ODD if wrong not in ([], ())] + [
                    "", "1", {}, {0: 0}, 0, [1, 1], [0, 0, 1], [0, 1, 1], [True], [False], [0, True], [0, 1, "4"], [0, 1, None],
                    [0, 1, [4]], [[0], [1]], [-1], [10 ** 30], [0, 1, 2], range(2)]:
                self.assertIs(goes_together(held, wrong), False)
        for wrong in STRANGERS:
            self.assertIs(goes_together(RING, [wrong]), False)
            self.assertIs(goes_together(RING, [1, 2, 3, wrong]), False)
        self.assertIs(goes_together(free, [4, 1, 0]), True)

    def test_a_beginning_of_each_queue(self):
        dues = [Due(1, [("ann", "bob", "iron", 1)]), Due(2, [("ann", "cy", "iron", 1), ("bob", "cy", "money", 1)]),
                Due(3, [("bob", "cy", "money", 1)])]
        held = Round({("ann", "iron"): 9, ("bob", "money"): 9}, dues)
        self.same([goes_together(held, value) for value in [[1], [2], [3], [1, 2], [1, 3], [2, 3], [1, 2, 3]]],
                  [True, False, False, True, False, False, True])
        held = Round({("ann", "iron"): 9, ("bob", "money"): 9}, dues, {("bob", "money"): [3, 2]})
        self.same([goes_together(held, value) for value in [[1], [2], [3], [1, 2], [1, 3], [2, 3], [1, 2, 3]]],
                  [True, False, True, False, True, False, True])

    def test_at_least_0_of_what_they_give(self):
        due = Due(1, [("ann", "bob", "iron", 2)])
        self.same([goes_together(Round({("ann", "iron"): has}, [due]), [1]) for has in [-1, 0, 1, 2, 3]],
                  [False, False, False, True, True])
        # Who only gets may stay below 0, and who gives nothing of a unit may have less than 0 of it.
        self.assertIs(goes_together(Round({("ann", "iron"): 2, ("bob", "iron"): -9, ("ann", "money"): -1}, [due]), [1]), True)
        # Who gives must not stay below 0, whatever they get.
        back = Due(2, [("bob", "ann", "iron", 1)])
        for has, expected in [(-2, False), (-1, True)]:
            held = Round({("ann", "iron"): 2, ("bob", "iron"): has}, [due, back])
            self.same([goes_together(held, [1, 2]), goes_together(held, [1])], [expected, True])


class Sets(Case):

    def test_the_ring(self):
        self.same([settled(held=RING), failed(held=RING), list(all_sets(held=RING))], [[1, 2, 3], [4], [[], [1, 2, 3]]])
        self.same([settled(RING.with_more("ann", "iron", 1)), failed(RING.with_more("ann", "iron", 1))], [[1, 2, 3, 4], []])
        self.same([settled(RING.with_more("ann", "iron", 2)), list(all_sets(RING.with_more("bob", "money", 6)))],
                  [[1, 2, 3, 4], [[], [1, 2, 3]]])

    def test_sums_that_come_to_0_on_the_way(self):
        # ann gives as much iron as she gets, with all dues and with those that are left when 4 and 5 are out.
        dues = [Due(1, [("ann", "bob", "iron", 1)]), Due(2, [("bob", "ann", "iron", 1)]),
                Due(4, [("ann", "cy", "iron", 1), ("cy", "ann", "gold", 1)]), Due(5, [("cy", "ann", "iron", 1), ("cy", "ann", "money", 1)])]
        held = Round({("cy", "iron"): 1}, dues)
        self.same([settled(held), failed(held), list(all_sets(held))], [[1, 2], [4, 5], [[], [1, 2]]])

    def test_no_dues(self):
        held = Round({("ann", "iron"): -4}, [])
        self.same([settled(held), failed(held), list(all_sets(held)), goes_together(held, [])], [[], [], [[]], True])

    def test_a_generator(self):
        self.assertTrue(inspect.isgeneratorfunction(all_sets))
        sets = all_sets(RING)
        first = next(sets)
        first.append(7)
        self.same([first, next(sets), list(sets)], [[7], [1, 2, 3], []])

    def test_twelve_dues(self):
        free = Round({("ann", "iron"): 4}, [Due(number, [("ann", "bob", "iron", 1)]) for number in range(12)])
        self.same([settled(free), failed(free), list(all_sets(free))],
                  [[0, 1, 2, 3], [4, 5, 6, 7, 8, 9, 10, 11], [list(range(many)) for many in range(5)]])
        names = ["ann", "bob", "cy", "dee", "eve", "fay"]
        ring = Round({}, [Due(at, [(names[at % 6], names[(at + 1) % 6], "iron", 1)]) for at in range(12)])
        self.same([settled(ring), list(all_sets(ring))], [list(range(12)), [[], [0, 1, 2, 3, 4, 5], list(range(12))]])
        each = Round({}, [Due(at, [(names[at % 6], "bob" if at % 6 == 0 else "ann", "u" + "abcdefghijkl"[at], 1)])
                          for at in range(12)]).with_more("ann", "ua", 1)
        self.same([settled(each), list(all_sets(each))], [[0], [[], [0]]])

    def test_many_sets_are_in_order(self):
        dues = [Due(number, [("ann", "bob", unit, 1)]) for number, unit in [(5, "iron"), (2, "wood"), (9, "money")]]
        held = Round({("ann", unit): 1 for unit in ["iron", "wood", "money"]}, dues)
        self.same(list(all_sets(held)), [[], [2], [5], [9], [2, 5], [2, 9], [5, 9], [2, 5, 9]])

    def test_against_all_sets(self):
        sizes = []
        for seed in range(400):
            held = random_round(random.Random(seed), great=4 + seed % 40)
            found = sets_of(held)
            greatest = sorted({number for some in found for number in some})
            self.same(list(all_sets(held)), found)
            self.same([settled(held), failed(held)],
                      [greatest, [number for number in held.numbers() if number not in greatest]])
            self.assertIn(greatest, found)
            sizes.append((len(held), len(greatest)))
            for many in range(len(held) + 1):
                for some in itertools.permutations(held.numbers(), many):
                    self.assertIs(goes_together(held, list(some)), sorted(some) in found)
        self.assertTrue({(4, 0), (4, 2), (4, 4), (5, 0), (5, 1), (5, 3), (5, 4)} <= set(sizes))

    def test_a_union_goes_together(self):
        for seed in range(100):
            held = random_round(random.Random(seed), great=20)
            found = sets_of(held)
            for one, other in itertools.combinations(found, 2):
                self.assertIn(sorted({*one, *other}), found)


class Handing(Case):

    def test_whatever_sets_are_handed_over(self):
        for seed in range(200):
            pick = random.Random(seed)
            held = random_round(pick, great=20)
            expected = settled(held)
            now, handed = held, []
            while True:
                sets = [some for some in all_sets(now) if some]
                if not sets:
                    break
                some = pick.choice(sets)
                now, handed = now.after(some), handed + some
            self.same(sorted(handed), expected)
            self.assertTrue(now == held.after(expected))

    def test_no_due_leaves_the_greatest_set(self):
        for seed in range(200):
            pick = random.Random(seed)
            held = random_round(pick, great=20)
            before = settled(held)
            more = held.with_more(*pick.choice(UNITS), pick.randrange(0, 5))
            self.assertTrue(set(before) <= set(settled(more)))
            later = held.with_due(random_due(pick, pick.choice([21, 30]), ["ann", "bob", "cy"]))
            self.assertTrue(set(before) <= set(settled(later)))
            # Settled between new dues, or once behind all of them.
            between = held.after(before).with_due(later.due(later.numbers()[-1]))
            self.same(sorted(before + settled(between)), settled(later))


class Ring(Case):

    def test_rings_without_money(self):
        ring = Round({}, [ONE, TWO, THREE])
        self.same([settled(ring), list(all_sets(ring))], [[1, 2, 3], [[], [1, 2, 3]]])
        self.same(settled(ring.without(2)), [])
        # One leg more than comes round.
        self.same(settled(Round({}, [ONE, TWO, Due(3, [("cid", "ann", "iron", 3), ("ann", "cid", "money", 6)])])), [])


if __name__ == "__main__":
    unittest.main()
