"""Bundles, and the unwinding of a round [85]."""

import itertools
import random
import unittest

from evenmarket.bundles import bundles, is_unwinding, unwinding
from evenmarket.dues import Due, due_of
from evenmarket.greatest import goes_together, settled
from evenmarket.rounds import Round
from tests.checks import Case, ODD
from tests.test_greatest import sets_of
from tests.test_rounds import FOUR, ONE, RING, THREE, TWO, random_round, told

# Two rings of two dues each that share none, and one due by itself.
TWO_RINGS = Round({("dee", "money"): 4}, [
    Due(5, [("ann", "bob", "iron", 1)]), Due(2, [("bob", "ann", "iron", 1)]),
    Due(3, [("ann", "bob", "wood", 2)]), Due(4, [("bob", "ann", "wood", 2)]), Due(9, [("dee", "ann", "money", 3)])])
# Two rings that share the due 1: with 2, or with 3.
SHARED = Round({}, [Due(1, [("ann", "bob", "iron", 1)]), Due(2, [("bob", "ann", "iron", 1)]), Due(3, [("bob", "ann", "iron", 1)])])


def bundles_by_words(held):
    """All bundles, by a look at all parts of all sets."""
    sets = [set(some) for some in sets_of(held) if some]
    return [sorted(some) for some in sets if not any(other < some for other in sets)]


def unwinding_by_words(held):
    row = []
    while bundles_by_words(held):
        row.append(bundles_by_words(held)[0])
        held = held.after(row[-1])
    return row


def rounds(many):
    for seed in range(many):
        pick = random.Random(seed)
        yield random_round(pick, most=6, great=5 + seed % 20), pick


def rings(many):
    """Rounds of one unit and without holdings, which are full of rings."""
    for seed in range(many):
        pick = random.Random(seed)
        dues = [Due(number, [(*pick.sample(["ann", "bob", "cy"], 2), pick.choice(["iron", "iron", "wood"]), pick.randrange(1, 3))])
                for number in pick.sample(range(20), pick.randrange(2, 8))]
        yield Round({}, dues), pick


class Bundles(Case):

    def test_rings(self):
        self.same(bundles(held=RING), [[1, 2, 3]])
        self.same(bundles(Round({}, [])), [])
        self.same(bundles(Round({}, [FOUR])), [])
        self.same(bundles(TWO_RINGS), [[9], [2, 5], [3, 4]])
        self.same(bundles(SHARED), [[1, 2]])
        wide = Round({("ann", "money"): 6, ("bob", "iron"): 2}, [ONE, FOUR, due_of(7, ("ann", "bob", "iron", 3, 2))])
        self.same(bundles(wide), [[7]])

    def test_rings_that_share_a_due(self):
        # The dues of bob stand in different queues, so either of them makes a ring with 1.
        dues = [Due(1, [("ann", "bob", "iron", 1), ("ann", "bob", "wood", 1)]), Due(2, [("bob", "cy", "iron", 1)]),
                Due(3, [("cy", "ann", "iron", 1)]), Due(4, [("bob", "cy", "wood", 1)]), Due(5, [("cy", "ann", "wood", 1)])]
        held = Round({("ann", "iron"): 1}, dues)
        self.same(bundles(held), [[1, 4, 5]])
        self.same(bundles(Round({("ann", "wood"): 1}, dues)), [[1, 2, 3]])
        self.same(bundles(Round({}, dues)), [[1, 2, 3, 4, 5]])
        # Two bundles that share the due 1, which needs one of two that give it iron.
        dues = [Due(1, [("ann", "bob", "iron", 1), ("ann", "cy", "gold", 1)]), Due(2, [("bob", "ann", "iron", 1)]),
                Due(3, [("cy", "ann", "iron", 1), ("cy", "bob", "gold", 1)])]
        self.same(bundles(Round({("ann", "gold"): 1, ("cy", "iron"): 1}, dues)), [[1, 2], [1, 3]])
        self.same(unwinding(Round({("ann", "gold"): 1, ("cy", "iron"): 1}, dues)), [[1, 2], [3]])

    def test_against_all_sets(self):
        sizes = set()
        for held, pick in itertools.chain(rounds(150), rings(150)):
            before = told(held)
            found = bundles(held)
            self.same(found, bundles_by_words(held))
            self.same(told(held), before)
            sizes.update(map(len, found))
        self.assertTrue({1, 2, 3} <= sizes)

    def test_twelve_dues(self):
        names = ["ann", "bob", "cy", "dee", "eve", "fay"]
        ring = Round({}, [Due(at, [(names[at % 6], names[(at + 1) % 6], "iron", 1)]) for at in range(12)])
        self.same([bundles(ring), unwinding(ring)], [[[0, 1, 2, 3, 4, 5]], [[0, 1, 2, 3, 4, 5], [6, 7, 8, 9, 10, 11]]])
        free = Round({(name, unit): 1 for name in names for unit in ["iron", "wood"]},
                     [Due(at, [(names[at % 6], names[(at + 1) % 6], "iron" if at < 6 else "wood", 1)]) for at in range(12)])
        self.same([bundles(free), unwinding(free)], [[[at] for at in range(12)]] * 2)

    def test_new_lists(self):
        bundles(RING)[0].clear()
        unwinding(RING)[0].clear()
        self.same([bundles(RING), unwinding(RING)], [[[1, 2, 3]], [[1, 2, 3]]])


class Unwinding(Case):

    def test_rings(self):
        self.same([unwinding(held=RING), unwinding(Round({}, [])), unwinding(Round({}, [ONE, TWO, THREE]))],
                  [[[1, 2, 3]], [], [[1, 2, 3]]])
        self.same([unwinding(TWO_RINGS), unwinding(SHARED)], [[[9], [2, 5], [3, 4]], [[1, 2]]])
        # What comes later goes ahead if it has fewer dues then.
        held = Round({("ann", "iron"): 1}, [Due(3, [("ann", "bob", "iron", 1)]), Due(1, [("bob", "ann", "iron", 1)])])
        self.same(unwinding(held), [[3], [1]])

    def test_against_the_words(self):
        for held, pick in itertools.chain(rounds(150), rings(100)):
            row = unwinding(held)
            self.same(row, unwinding_by_words(held))
            self.same(sorted(number for bundle in row for number in bundle), settled(held))
            self.assertIs(is_unwinding(held, row), True)

    def test_other_orders(self):
        met = set()
        for held, pick in itertools.chain(rounds(150), rings(150)):
            row, now = [], held
            while bundles_by_words(now):
                self.assertIs(is_unwinding(held, row), False)
                bundle = pick.choice(bundles_by_words(now))
                row.append(pick.sample(bundle, len(bundle)))
                now = now.after(bundle)
            self.assertIs(is_unwinding(held=held, value=row), True)
            self.assertIs(is_unwinding(held, tuple(map(tuple, row))), True)
            met.add(row != unwinding(held))
            for at in range(len(row)):
                self.assertIs(is_unwinding(held, row[:at] + row[at + 1:]), False)
                self.assertIs(is_unwinding(held, row[:at + 1] + row[at:]), False)
                self.assertIs(is_unwinding(held, row + [row[at]]), False)
                self.assertIs(is_unwinding(held, row[:at] + [[]] + row[at:]), False)
                for other in range(at + 1, len(row)):
                    joined = row[:at] + [row[at] + row[other]] + row[at + 1:other] + row[other + 1:]
                    self.assertIs(is_unwinding(held, joined), False)
            for turn in itertools.islice(itertools.permutations(row), 24):
                after, expected = held, True
                for bundle in turn:
                    expected = expected and goes_together(after, list(bundle)) and sorted(bundle) in bundles_by_words(after)
                    after = after.after(bundle) if expected else after
                self.assertIs(is_unwinding(held, list(turn)), expected)
                met.add(("turn", expected))
        self.assertEqual(met, {True, False, ("turn", True), ("turn", False)})

    def test_other_values(self):
        for wrong in [wrong for wrong in ODD if wrong not in ([], ())] + [
                [[1, 2, 3], []], [1, 2, 3], [[1, 2, 3, 3]], [[1], [2, 3]], [[1, 2], [3]], [[1, 2, 3, 4]], [[1, 2, "3"]], [[True, 2, 3]],
                [{1: 1, 2: 2, 3: 3}], {(1, 2, 3): 1}, "123", ["123"], [[1, 2, 3], [4]], [[1, 2, 3], [1, 2, 3]], [[1, 2, 3], None], 1,
                [[[1, 2, 3]]], [None, [1, 2, 3]], [[1, 2, None]], [[1, 2, [3]]], [[0, 1, 2, 3]], [[1, 2, 9]]]:
            self.assertIs(is_unwinding(RING, wrong), False, wrong)
        for right in [[[1, 2, 3]], [[3, 1, 2]], ((2, 3, 1),), [(1, 3, 2)]]:
            self.assertIs(is_unwinding(RING, right), True)
        for nothing in [Round({}, []), Round({}, [FOUR])]:
            self.assertIs(is_unwinding(nothing, []), True)
            self.assertIs(is_unwinding(nothing, ()), True)
            self.assertIs(is_unwinding(nothing, [[]]), False)
            self.assertIs(is_unwinding(nothing, [[4]]), False)
        self.assertIs(is_unwinding(RING, []), False)


if __name__ == "__main__":
    unittest.main()
