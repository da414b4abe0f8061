"""Bundles, and the unwinding of a round [85]."""

import itertools
import random
import unittest

from evenmarket.bundles import bundles, is_unwinding, unwinding
from evenmarket.dues import Due, are_legs, due_of
from evenmarket.greatest import all_sets, goes_together, settled
from evenmarket.rounds import Round
from tests.checks import Case, ODD, steps
from tests.test_greatest import sets_of
from tests.test_rounds import FOUR, ONE, RING, THREE, TWO, random_round, told

# Two rings of two dues each that share none, and one due by itself.
TWO_RINGS = Round({("dee", "money"): 4}, [
    Due(5, [("ann", "bob", "iron", 1)]), Due(2, [("bob", "ann", "iron", 1)]),
    Due(3, [("ann", "bob", "wood", 2)]), Due(4, [("bob", "ann", "wood", 2)]), Due(9, [("dee", "ann", "money", 3)])])
# Two rings that share the due 1: with 2, or with 3.
SHARED = Round({}, [Due(1, [("ann", "bob", "iron", 1)]), Due(2, [("bob", "ann", "iron", 1)]), Due(3, [("bob", "ann", "iron", 1)])])
NAMES = ["ann", "bob", "cid", "dee", "eve", "kim"]
# Twelve dues: six rings of two.
SIX_RINGS = Round({}, [Due(at, [(NAMES[at % 6], NAMES[at % 6 + 1 - 2 * (at % 6 % 2)], ["iron", "wood"][at // 6], 1)])
                       for at in range(12)])
# A ring of iron and a ring of wood that both go through the due 0, which stands ahead of 6.
LONG_RING = Round({}, [Due(at, [(NAMES[at % 6], NAMES[(at + 1) % 6], ["iron", "wood"][at // 6], 1)]
                           + [("ann", "bob", "wood", 1)] * (at == 0)) for at in range(12)])


def bundles_by_words(held):
    """All bundles, by a look at all parts of all sets."""
    return least_of(sets_of(held))


def least_of(lists):
    """Those that are not empty, and of which no other such list is a part."""
    sets = [set(some) for some in lists if some]
    return [sorted(some) for some in sets if not any(other < some for other in sets)]


def unwinding_by_words(held):
    row = []
    while bundles_by_words(held):
        row.append(bundles_by_words(held)[0])
        held = held.after(row[-1])
    return row


def rounds(many):
    for seed in range(many):
        pick = random.Random(seed)
        yield random_round(pick, most=6, great=5 + seed % 20), pick


def rings(many):
    """Rounds of one unit and without holdings, which are full of rings."""
    for seed in range(many):
        pick = random.Random(seed)
        dues = [Due(number, [(*pick.sample(["ann", "bob", "cy"], 2), pick.choice(["iron", "iron", "wood"]), pick.randrange(1, 3))])
                for number in pick.sample(range(20), pick.randrange(2, 8))]
        yield Round({}, dues), pick


def wide_rounds(many, most=6, least=0):
    """Rounds among up to six owners, with holdings above and below 0 and queues in told orders."""
    for seed in range(many):
        pick = random.Random(seed)
        owners, units = NAMES[:pick.randrange(2, 7)], ["money", "iron", "wood"][:pick.randrange(1, 4)]
        dues = []
        for number in pick.sample(range(20), pick.randrange(least, most + 1)):
            legs = [(*pick.sample(owners, 2), pick.choice(units), pick.choice([1, 1, 1, 2])) for _ in range(pick.choice([1, 1, 2, 3]))]
            dues.append(Due(number, legs) if are_legs(legs) else Due(number, legs[:1]))
        yield Round({door: pick.choice([-1, 0, 0, 1]) for door in itertools.product(owners, units)}, dues, some_queues(pick, dues))


def knots(many, most=6, least=3):
    """Rounds in which one due brings several owners what the others hand back, so that bundles share dues."""
    for seed in range(many):
        pick = random.Random(seed)
        numbers = pick.sample(range(20), pick.randrange(least, most + 1))
        doors = pick.sample(list(itertools.product(NAMES[1:], ["iron", "wood"])), pick.randrange(2, 5))
        dues = [Due(numbers[0], [("ann", *door, 1) for door in doors])]
        for number in numbers[1:]:
            owner, unit = pick.choice(doors)
            taker = pick.choice(["ann", "ann", "ann", pick.choice([name for name in NAMES if name != owner])])
            dues.append(Due(number, [(owner, taker, unit, 1)]))
        holdings = {door: pick.choice([-1, 0, 0, 0, 0, 0, 0, 1]) for door in itertools.product(NAMES, ["iron", "wood"])}
        for unit in ["iron", "wood"]:
            holdings[("ann", unit)] = dues[0].gives("ann", unit) - pick.randrange(0, 3)
        yield Round(holdings, dues, some_queues(pick, dues))


def some_queues(pick, dues):
    """Some of the queues of dues, in any order."""
    doors = sorted({door for due in dues for door in due.doors() if pick.randrange(3) == 0})
    queues = {door: [due.number for due in dues if door in due.doors()] for door in doors}
    return {door: pick.sample(queues[door], len(queues[door])) for door in doors}


def hub(**more):
    """A due by which ann gives four others iron, and one by which each of them gives it back; holdings as told."""
    others = NAMES[2:]
    dues = [Due(0, [("ann", other, "iron", 1) for other in others])]
    return Round({(owner, "iron"): more[owner] for owner in more},
                 dues + [Due(at, [(other, "ann", "iron", 1)]) for at, other in enumerate(others, 1)])


class Bundles(Case):

    def test_rings(self):
        self.same(bundles(held=RING), [[1, 2, 3]])
        self.same(bundles(Round({}, [])), [])
        self.same(bundles(Round({}, [FOUR])), [])
        self.same(bundles(TWO_RINGS), [[9], [2, 5], [3, 4]])
        self.same(bundles(SHARED), [[1, 2]])
        wide = Round({("ann", "money"): 6, ("bob", "iron"): 2}, [ONE, FOUR, due_of(7, ("ann", "bob", "iron", 3, 2))])
        self.same(bundles(wide), [[7]])

    def test_rings_that_share_a_due(self):
        # The dues of bob stand in different queues, so either of them makes a ring with 1.
        dues = [Due(1, [("ann", "bob", "iron", 1), ("ann", "bob", "wood", 1)]), Due(2, [("bob", "cy", "iron", 1)]),
                Due(3, [("cy", "ann", "iron", 1)]), Due(4, [("bob", "cy", "wood", 1)]), Due(5, [("cy", "ann", "wood", 1)])]
        held = Round({("ann", "iron"): 1}, dues)
        self.same(bundles(held), [[1, 4, 5]])
        self.same(bundles(Round({("ann", "wood"): 1}, dues)), [[1, 2, 3]])
        self.same(bundles(Round({}, dues)), [[1, 2, 3, 4, 5]])
        # Two bundles that share the due 1, which needs one of two that give it iron.
        dues = [Due(1, [("ann", "bob", "iron", 1), ("ann", "cy", "gold", 1)]), Due(2, [("bob", "ann", "iron", 1)]),
                Due(3, [("cy", "ann", "iron", 1), ("cy", "bob", "gold", 1)])]
        self.same(bundles(Round({("ann", "gold"): 1, ("cy", "iron"): 1}, dues)), [[1, 2], [1, 3]])
        self.same(unwinding(Round({("ann", "gold"): 1, ("cy", "iron"): 1}, dues)), [[1, 2], [3]])

    def test_a_due_in_several_bundles(self):
        for has in range(-2, 6):
            expected = [[0, *some] for some in itertools.combinations([1, 2, 3, 4], max(4 - has, 0))]
            self.same(bundles(hub(ann=has)), expected)
            self.same(unwinding(hub(ann=has))[:1], expected[:1])
        # Who has iron need not wait; who has less than none cannot go with the rest.
        self.same(bundles(hub(ann=2, cid=1)), [[1], [0, 2, 3], [0, 2, 4], [0, 3, 4]])
        self.same(bundles(hub(ann=2, eve=-1)), [[0, 1, 2], [0, 1, 4], [0, 2, 4]])
        self.same(bundles(hub(ann=2, cid=-1, dee=-1, eve=-1)), [])
        self.same(bundles(hub(ann=3, bob=-5, kim=2)), [[4], [0, 1], [0, 2], [0, 3]])

    def test_the_order_of_bundles(self):
        # The due 0 needs one of two: 1, which needs 2, or 6, which stands behind 5 in a queue of bob.
        dues = [Due(0, [("ann", "bob", "iron", 2), ("ann", "cid", "iron", 1)]),
                Due(1, [("cid", "ann", "iron", 1), ("cid", "eve", "wood", 1)]), Due(2, [("eve", "cid", "wood", 1)]),
                Due(5, [("bob", "dee", "iron", 1)]), Due(6, [("bob", "ann", "iron", 1)])]
        held = Round({("ann", "iron"): 2}, dues)
        self.same([bundles(held), unwinding(held)[:1]], [[[0, 1, 2], [0, 5, 6]], [[0, 1, 2]]])
        held = Round({("ann", "iron"): 2, ("eve", "wood"): 1, ("cid", "wood"): 1}, dues)
        self.same(bundles(held), [[2], [0, 1], [0, 5, 6]])

    def test_queues_that_wait_for_one_another(self):
        # 1 stands ahead of 2 in a queue of ann, 2 ahead of 3 in one of bob, and 3 ahead of 1 in one of cid.
        legs = {1: ["ann", "cid"], 2: ["bob", "ann"], 3: ["cid", "bob"]}
        dues = [Due(number, [(owner, "dee", "iron", 1) for owner in legs[number]]) for number in legs]
        queues = {("ann", "iron"): [1, 2], ("bob", "iron"): [2, 3], ("cid", "iron"): [3, 1]}
        rich = {(owner, "iron"): 2 for owner in ["ann", "bob", "cid"]}
        self.same([bundles(Round(rich, dues, queues)), unwinding(Round(rich, dues, queues))], [[[1, 2, 3]]] * 2)
        self.same(bundles(Round(rich, dues)), [[1]])
        self.same(bundles(Round({**rich, ("bob", "iron"): 1}, dues, queues)), [])
        # All ahead of a due that a bundle needs are in it, and what they need.
        dues = [Due(4, [("ann", "bob", "wood", 1)]), Due(2, [("bob", "ann", "wood", 1)]), Due(7, [("bob", "cid", "wood", 1)]),
                Due(9, [("cid", "bob", "wood", 1)])]
        self.same(bundles(Round({}, dues, {("bob", "wood"): [7, 2]})), [[7, 9]])
        self.same(bundles(Round({("cid", "wood"): -1}, dues, {("bob", "wood"): [7, 2]})), [])
        self.same(bundles(Round({("ann", "wood"): -1}, dues, {("bob", "wood"): [2, 7]})), [])
        self.same(bundles(Round({("cid", "wood"): -1, ("bob", "wood"): 1}, dues, {("bob", "wood"): [7, 2]})), [[7]])

    def test_against_all_sets(self):
        sizes = set()
        for held, pick in itertools.chain(rounds(150), rings(150)):
            before = told(held)
            found = bundles(held)
            self.same(found, bundles_by_words(held))
            self.same(told(held), before)
            sizes.update(map(len, found))
        self.assertTrue({1, 2, 3} <= sizes)

    def test_wide_rounds_against_all_sets(self):
        met = set()
        for held in itertools.chain(wide_rounds(400), knots(600)):
            found = bundles(held)
            self.same(found, bundles_by_words(held))
            self.same(unwinding(held), unwinding_by_words(held))
            met.update((len(one), any(set(one) & set(other) for other in found if other != one)) for one in found)
        self.assertTrue({(1, False), (2, False), (2, True), (3, False), (3, True), (4, False)} <= met)

    def test_rounds_of_many_dues_against_all_sets(self):
        met = set()
        for held in itertools.chain(wide_rounds(60, most=12, least=9), knots(60, most=12, least=9)):
            found = bundles(held)
            self.same(found, least_of(all_sets(held)))
            self.same(unwinding(held)[:1], found[:1])
            met.update((len(one), any(set(one) & set(other) for other in found if other != one)) for one in found)
        self.assertTrue({(1, False), (2, False), (3, False), (3, True)} <= met)

    def test_twelve_dues(self):
        names = ["ann", "bob", "cy", "dee", "eve", "fay"]
        ring = Round({}, [Due(at, [(names[at % 6], names[(at + 1) % 6], "iron", 1)]) for at in range(12)])
        self.same([bundles(ring), unwinding(ring)], [[[0, 1, 2, 3, 4, 5]], [[0, 1, 2, 3, 4, 5], [6, 7, 8, 9, 10, 11]]])
        free = Round({(name, unit): 1 for name in names for unit in ["iron", "wood"]},
                     [Due(at, [(names[at % 6], names[(at + 1) % 6], "iron" if at < 6 else "wood", 1)]) for at in range(12)])
        self.same([bundles(free), unwinding(free)], [[[at] for at in range(12)]] * 2)

    def test_six_rings(self):
        pairs = [[0, 1], [2, 3], [4, 5], [6, 7], [8, 9], [10, 11]]
        self.same([bundles(SIX_RINGS), unwinding(SIX_RINGS)], [pairs, pairs])
        self.same(bundles(SIX_RINGS.with_more("dee", "wood", 1)), [[9], *pairs[:4], pairs[5]])
        self.same(bundles(Round({("ann", "iron"): -1, ("eve", "wood"): 2, ("kim", "wood"): -2}, [SIX_RINGS.due(at) for at in range(12)])),
                  [[10], [2, 3], [4, 5], [6, 7], [8, 9]])

    def test_a_long_ring(self):
        self.same([bundles(LONG_RING), unwinding(LONG_RING)], [[[0, 1, 2, 3, 4, 5, 7, 8, 9, 10, 11]]] * 2)

    def test_not_all_sets_are_gone_through(self):
        # Twelve dues have 4096 sets; a look at each of them takes more than a million steps.
        for held in [SIX_RINGS, LONG_RING]:
            for call in [bundles, unwinding]:
                self.assertLess(steps(call, held), 20000)

    def test_new_lists(self):
        bundles(RING)[0].clear()
        unwinding(RING)[0].clear()
        self.same([bundles(RING), unwinding(RING)], [[[1, 2, 3]], [[1, 2, 3]]])


class Unwinding(Case):

    def test_rings(self):
        self.same([unwinding(held=RING), unwinding(Round({}, [])), unwinding(Round({}, [ONE, TWO, THREE]))],
                  [[[1, 2, 3]], [], [[1, 2, 3]]])
        self.same([unwinding(TWO_RINGS), unwinding(SHARED)], [[[9], [2, 5], [3, 4]], [[1, 2]]])
        # What comes later goes ahead if it has fewer dues then.
        held = Round({("ann", "iron"): 1}, [Due(3, [("ann", "bob", "iron", 1)]), Due(1, [("bob", "ann", "iron", 1)])])
        self.same(unwinding(held), [[3], [1]])

    def test_against_the_words(self):
        for held, pick in itertools.chain(rounds(150), rings(100)):
            row = unwinding(held)
            self.same(row, unwinding_by_words(held))
            self.same(sorted(number for bundle in row for number in bundle), settled(held))
            self.assertIs(is_unwinding(held, row), True)

    def test_other_orders(self):
        met = set()
        for held, pick in itertools.chain(rounds(150), rings(150)):
            row, now = [], held
            while bundles_by_words(now):
                self.assertIs(is_unwinding(held, row), False)
                bundle = pick.choice(bundles_by_words(now))
                row.append(pick.sample(bundle, len(bundle)))
                now = now.after(bundle)
            self.assertIs(is_unwinding(held=held, value=row), True)
            self.assertIs(is_unwinding(held, tuple(map(tuple, row))), True)
            met.add(row != unwinding(held))
            for at in range(len(row)):
                self.assertIs(is_unwinding(held, row[:at] + row[at + 1:]), False)
                self.assertIs(is_unwinding(held, row[:at + 1] + row[at:]), False)
                self.assertIs(is_unwinding(held, row + [row[at]]), False)
                self.assertIs(is_unwinding(held, row[:at] + [[]] + row[at:]), False)
                for other in range(at + 1, len(row)):
                    joined = row[:at] + [row[at] + row[other]] + row[at + 1:other] + row[other + 1:]
                    self.assertIs(is_unwinding(held, joined), False)
            for turn in itertools.islice(itertools.permutations(row), 24):
                after, expected = held, True
                for bundle in turn:
                    expected = expected and goes_together(after, list(bundle)) and sorted(bundle) in bundles_by_words(after)
                    after = after.after(bundle) if expected else after
                self.assertIs(is_unwinding(held, list(turn)), expected)
                met.add(("turn", expected))
        self.assertEqual(met, {True, False, ("turn", True), ("turn", False)})

    def test_other_values(self):
        for wrong in [wrong for wrong in ODD if wrong not in ([], ())] + [
                [[1, 2, 3], []], [1, 2, 3], [[1, 2, 3, 3]], [[1], [2, 3]], [[1, 2], [3]], [[1, 2, 3, 4]], [[1, 2, "3"]], [[True, 2, 3]],
                [{1: 1, 2: 2, 3: 3}], {(1, 2, 3): 1}, "123", ["123"], [[1, 2, 3], [4]], [[1, 2, 3], [1, 2, 3]], [[1, 2, 3], None], 1,
                [[[1, 2, 3]]], [None, [1, 2, 3]], [[1, 2, None]], [[1, 2, [3]]], [[0, 1, 2, 3]], [[1, 2, 9]]]:
            self.assertIs(is_unwinding(RING, wrong), False, wrong)
        for right in [[[1, 2, 3]], [[3, 1, 2]], ((2, 3, 1),), [(1, 3, 2)]]:
            self.assertIs(is_unwinding(RING, right), True)
        for nothing in [Round({}, []), Round({}, [FOUR])]:
            self.assertIs(is_unwinding(nothing, []), True)
            self.assertIs(is_unwinding(nothing, ()), True)
            self.assertIs(is_unwinding(nothing, [[]]), False)
            self.assertIs(is_unwinding(nothing, [[4]]), False)
        self.assertIs(is_unwinding(RING, []), False)


if __name__ == "__main__":
    unittest.main()
