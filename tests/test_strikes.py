"""Strikes, and their roots [82] to [84]."""

import itertools
import random
import unittest

from evenmarket.dues import BadOwners, Due, NoDue, Settles, due_of
from evenmarket.greatest import failed, settled
from evenmarket.rounds import Round
from evenmarket.strikes import are_strikes, root, roots, strikes, strikes_of
from tests.checks import Case, ODD
from tests.test_greatest import sets_of
from tests.test_rounds import FOUR, ONE, RING, STRANGERS, THREE, TWO, random_round, told

OWNERS = ["ann", "bob", "cy"]
# Values that are no lists of different members.
NO_OWNERS = [wrong for wrong in ODD if wrong not in ([], (), ["ann"])] + [
    "ann", ["ann", "ann"], ["ann", "bob", "ann"], ["house"], ["ann", "outside"], ["money"], [""], ["Ann"], ["ann", None],
    ["ann", ["bob"]], [("ann",)], {"ann": True}, ["ann", 1], [True], ("ann", "ann"), "a", 0]


def right_strikes(held, struck, still):
    """All right strikes behind some dues were struck, by the words of [82], in the order of [83]."""
    found = []
    for word in ["still", "behind", "short"]:
        for owner, unit in held.doors():
            queue = held.queue(owner, unit)
            for number in queue:
                if number in struck:
                    continue
                at = queue.index(number)
                rest = [held.due(one) for one in held.numbers() if one not in struck]
                has = held.holds(owner, unit) + sum(
                    leg[3] * ((leg[1] == owner) - (leg[0] == owner)) for due in rest for leg in due.legs if leg[2] == unit)
                is_right = {"still": owner in still, "behind": bool(set(queue[:at]) & set(struck)),
                            "short": set(queue[at + 1:]) <= set(struck) and has < 0}[word]
                if is_right:
                    found.append((number, owner, unit, word))
    return found


def row_by_words(held, still):
    row = []
    while right_strikes(held, [strike[0] for strike in row], still):
        row.append(right_strikes(held, [strike[0] for strike in row], still)[0])
    return row


def greatest_without(held, still):
    """The greatest set of those without dues in which these owners give, by a look at all sets."""
    return sorted({number for some in sets_of(held) for number in some
                   if not any(owner in still for one in some for owner, unit in held.due(one).doors())})


def rounds(many, great=8):
    """Rounds with some lists of owners who stand still."""
    for seed in range(many):
        pick = random.Random(seed)
        held = random_round(pick, most=6, great=great)
        yield held, pick, pick.choice([[], [], ["ann"], ["cy"], ["bob", "ann"], ["zoe"], ["ann", "bob", "cy"], ["zoe", "cy"]])


class Rows(Case):

    def test_the_ring(self):
        self.same(strikes(RING), [(4, "ann", "iron", "short")])
        self.same(strikes(held=RING, still=["cid"]),
                  [(3, "cid", "iron", "still"), (2, "cid", "money", "still"), (4, "ann", "iron", "short"),
                   (1, "ann", "iron", "short")])
        self.same(strikes(RING, ("zoe", "dee")), [(4, "ann", "iron", "short")])
        self.same(strikes(RING.with_more("ann", "iron", 1)), [])
        self.same(strikes(Round({}, [])), [])
        self.same(strikes(Round({}, []), ["ann"]), [])

    def test_the_order_of_words_and_queues(self):
        dues = [Due(number, [("ann", "bob", unit, 1)]) for number, unit in [(1, "iron"), (2, "iron"), (3, "gold"), (4, "gold")]]
        held = Round({("ann", "gold"): 1}, dues, {("ann", "iron"): [2, 1]})
        self.same(strikes(held), [(4, "ann", "gold", "short"), (1, "ann", "iron", "short"), (2, "ann", "iron", "short")])
        # Whoever stands still comes first, also in a greater queue; then what is behind, ahead of what is short.
        wide = held.with_due(Due(5, [("bob", "ann", "wood", 1), ("ann", "cy", "iron", 1)]))
        self.same(strikes(wide, ["bob"]), [(5, "bob", "wood", "still"), (4, "ann", "gold", "short"),
                                           (1, "ann", "iron", "short"), (2, "ann", "iron", "short")])
        front = Round({}, [*dues, Due(5, [("bob", "ann", "wood", 1), ("ann", "cy", "iron", 1)])], {("ann", "iron"): [5, 2, 1]})
        self.same(strikes(front, ["bob"]), [(5, "bob", "wood", "still"), (2, "ann", "iron", "behind"),
                                            (1, "ann", "iron", "behind"), (4, "ann", "gold", "short"),
                                            (3, "ann", "gold", "short")])
        self.same(strikes(front, ["ann"])[:3], [(3, "ann", "gold", "still"), (4, "ann", "gold", "still"),
                                                (5, "ann", "iron", "still")])

    def test_against_the_words(self):
        words, sizes = set(), set()
        for held, pick, still in rounds(300, 12):
            before = told(held)
            row = strikes(held, still)
            self.same(row, row_by_words(held, still))
            self.same(told(held), before)
            words.update((strike[3], bool(still)) for strike in row)
            sizes.add((len(row), len(held)))
        self.assertEqual(words, {("still", True), ("behind", True), ("short", True), ("behind", False), ("short", False)})
        self.assertTrue({(0, 0), (0, 4), (2, 4), (4, 4), (3, 6), (6, 6)} <= sizes)

    def test_struck_and_settled_are_all_dues(self):
        for held, pick, still in rounds(150, 20):
            self.same(sorted([strike[0] for strike in strikes(held)] + settled(held)), held.numbers())
            struck = [strike[0] for strike in strikes(held, still)]
            self.same(sorted(struck + greatest_without(held, still)), held.numbers())
            self.assertEqual(len(set(struck)), len(struck))

    def test_new_lists(self):
        row = strikes(RING)
        row.clear()
        self.same(len(strikes(RING)), 1)


class Judging(Case):

    def test_rows_in_any_order(self):
        met = 0
        for held, pick, still in rounds(120):
            row = []
            while True:
                rights = right_strikes(held, [strike[0] for strike in row], still)
                self.assertIs(are_strikes(held, row, still), True)
                self.assertIs(are_strikes(held=held, value=tuple(row), still=tuple(still)), True)
                if not rights:
                    break
                row.append(pick.choice(rights))
            # Every such row strikes all in the end.
            self.same(sorted(strike[0] for strike in row), sorted(strike[0] for strike in strikes(held, still)))
            self.assertTrue(still or not row or are_strikes(held, row))
            if row:
                at = pick.randrange(len(row))
                number, owner, unit, word = row[at]
                for strike in itertools.product([number, row[0][0], -1], OWNERS, ["iron", "money", "wood"],
                                                ["still", "behind", "short"]):
                    expected = strike in right_strikes(held, [one[0] for one in row[:at]], still)
                    self.assertIs(are_strikes(held, row[:at] + [strike], still), expected)
                    met += expected
        self.assertGreater(met, 100)

    def test_one_thing_otherwise(self):
        row = strikes(RING, ["cid"])
        self.assertIs(are_strikes(RING, row, ["cid"]), True)
        # The same in the other orders that are right, and in one that is too early.
        self.assertIs(are_strikes(RING, [row[1], row[0], row[2], row[3]], ["cid"]), True)
        self.assertIs(are_strikes(RING, [row[0], row[1], row[3], row[2]], ["cid"]), False)
        self.assertIs(are_strikes(RING, row, []), False)
        self.assertIs(are_strikes(RING, row, ["ann"]), False)
        for at in range(4):
            number, owner, unit, word = row[at]
            for other in [(number, owner, unit, "behind"), (number, owner, unit, "Still"), (number, owner, unit, ""),
                          (number, owner, unit, None), (number, owner, unit), (number, owner, unit, word, word),
                          [number, owner, unit, word], (9, owner, unit, word), (True, owner, unit, word),
                          (str(number), owner, unit, word), (number, "zoe", unit, word), (number, owner, "gold", word),
                          (number, [owner], unit, word), (number, owner, {}, word), (number, owner, unit, [word]), row[at - 1],
                          None, (), number, (-1, owner, unit, word), (None, owner, unit, word), ([number], owner, unit, word)]:
                if other == row[at] or at == 0 and other == row[3]:
                    continue
                self.assertIs(are_strikes(RING, row[:at] + [other] + row[at + 1:], ["cid"]), False, (at, other))
        self.assertIs(are_strikes(RING, row + [row[0]], ["cid"]), False)
        self.assertIs(are_strikes(RING, row + [(5, "ann", "iron", "short")], ["cid"]), False)

    def test_other_values(self):
        for wrong in [wrong for wrong in ODD if wrong not in ([], ())] + ["", 1, {(4, "ann", "iron", "short"): 1},
                                                                        (4, "ann", "iron", "short"), strikes]:
            self.assertIs(are_strikes(RING, wrong), False)
        self.assertIs(are_strikes(RING, []), True)
        self.assertIs(are_strikes(RING, ()), True)
        # The number of another queue, and one that is there as another kind.
        self.assertIs(are_strikes(RING, [(4, "bob", "iron", "short")]), False)
        self.assertIs(are_strikes(Round({}, [Due(1, FOUR.legs)]), [(True, "ann", "iron", "short")]), False)
        self.assertIs(are_strikes(Round({}, [Due(1, FOUR.legs)]), [(1, "ann", "iron", "short")]), True)

    def test_owners(self):
        for wrong in NO_OWNERS:
            self.raises_given(BadOwners, wrong, strikes, RING, wrong)
            self.raises_given(BadOwners, wrong, are_strikes, RING, [], wrong)
            self.raises_given(BadOwners, wrong, are_strikes, RING, None, wrong)


class OfOne(Case):

    def test_each_due(self):
        for held, pick, still in rounds(150):
            row = strikes(held)
            for number in held.numbers():
                if number in settled(held):
                    self.raises(Settles, {"given": number}, strikes_of, held, number)
                    self.raises(Settles, {"given": number}, root, held, number)
                else:
                    part = strikes_of(held=held, number=number)
                    self.same(part, row[:len(part)])
                    self.assertEqual(part[-1][0], number)

    def test_no_due(self):
        for held in [RING, RING.with_more("ann", "iron", 9), Round({}, [])]:
            for wrong in STRANGERS:
                self.raises_given(NoDue, wrong, strikes_of, held, wrong)
                self.raises_given(NoDue, wrong, root, held, wrong)
        self.raises(NoDue, {"given": True}, strikes_of, Round({}, [Due(1, FOUR.legs)]), True)


class Roots(Case):

    def test_the_ring(self):
        self.same([root(held=RING, number=4), roots(held=RING)], [("ann", "iron"), {4: ("ann", "iron")}])
        self.same(roots(RING.with_more("ann", "iron", 1)), {})
        self.same(roots(Round({}, [])), {})

    def test_several_behind_one_another(self):
        # ann lacks gold for 1; 2 is behind it, 3 behind 2 in the queue of bob, 4 behind 3 in that of cy.
        dues = [Due(1, [("ann", "cy", "gold", 2), ("ann", "cy", "iron", 1)]), Due(2, [("ann", "bob", "iron", 1), ("bob", "cy", "wood", 1)]),
                Due(3, [("bob", "ann", "wood", 1), ("cy", "ann", "coal", 1)]), Due(4, [("cy", "bob", "coal", 1)])]
        rich = {("ann", "gold"): 1, ("ann", "iron"): 9, ("bob", "wood"): 9, ("cy", "coal"): 9}
        held = Round(rich, dues)
        self.same(strikes(held), [(1, "ann", "gold", "short"), (2, "ann", "iron", "behind"), (3, "bob", "wood", "behind"),
                                  (4, "cy", "coal", "behind")])
        self.same(roots(held), {number: ("ann", "gold") for number in [1, 2, 3, 4]})
        # Of several dues that are struck ahead, the nearest one tells the root.
        held = Round({("ann", "iron"): 9}, [Due(1, [("ann", "cy", "iron", 1), ("cy", "bob", "gold", 1)]),
                                            Due(2, [("ann", "cy", "iron", 1), ("bob", "ann", "gold", 5)]),
                                            Due(3, [("ann", "bob", "iron", 1)])], {("ann", "iron"): [1, 2, 3]})
        self.same(strikes(held), [(2, "bob", "gold", "short"), (3, "ann", "iron", "behind"), (1, "cy", "gold", "short")])
        self.same(roots(held), {1: ("cy", "gold"), 2: ("bob", "gold"), 3: ("bob", "gold")})
        self.same(list(roots(held)), [1, 2, 3])

    def test_one_owner_with_queues_of_several_units(self):
        dues = [due_of(1, ("ann", "bob", "iron", 9, 1)), due_of(2, ("cy", "ann", "wood", 1, 1)), due_of(3, ("ann", "cy", "iron", 1, 1)),
                Due(4, [("ann", "bob", "wood", 1), ("ann", "bob", "money", 1)])]
        held = Round({("ann", "money"): 5, ("ann", "wood"): 9, ("bob", "iron"): 1, ("cy", "iron"): 1, ("cy", "money"): 9}, dues)
        self.same(strikes(held), [(4, "ann", "money", "short"), (3, "ann", "money", "short"), (1, "ann", "money", "short")])
        self.same(roots(held), {number: ("ann", "money") for number in [1, 3, 4]})
        held = Round({("ann", "money"): 5, ("bob", "iron"): 1, ("cy", "iron"): 1, ("cy", "money"): 9}, dues)
        self.same(roots(held), {1: ("ann", "money"), 2: ("ann", "wood"), 3: ("ann", "money"), 4: ("ann", "money")})

    def test_against_the_words(self):
        met = set()
        for held, pick, still in rounds(300):
            row = strikes(held)
            expected = {}
            for at, (number, owner, unit, word) in enumerate(row):
                if word == "short":
                    expected[number] = (owner, unit)
                else:
                    queue = held.queue(owner, unit)
                    before = [strike[0] for strike in row[:at]]
                    ahead = [one for one in reversed(queue[:queue.index(number)]) if one in before]
                    expected[number] = expected[ahead[0]]
                    met.add(expected[number] != (owner, unit))
            self.same(roots(held), {number: expected[number] for number in failed(held)})
            for number in failed(held):
                self.same(root(held, number), expected[number])
        self.assertEqual(met, {True, False})

    def test_a_root_lacks_something(self):
        for held, pick, still in rounds(100):
            for owner, unit in set(roots(held).values()):
                self.assertLess(held.holds(owner, unit), sum(held.due(number).gives(owner, unit) for number in held.numbers()))


class Examples(Case):

    def test_ring_parts(self):
        self.same([strikes(Round({}, [ONE, TWO])), strikes(Round({}, [ONE, TWO, THREE]))],
                  [[(1, "ann", "iron", "short"), (2, "bob", "iron", "short")], []])


if __name__ == "__main__":
    unittest.main()
