"""Helping: what settles if somebody has more, or if some stand still."""

from evenmarket.greatest import behind_all, greatest_within, parts_of_size, settled
from evenmarket.strikes import check_owners


def staircase(held, owner, unit):
    """The tuples (amount, numbers) of what settles from so many more of a unit of a member on."""
    # With this amount the member lacks nothing, whichever dues are handed over.
    most = max(0, sum([held.due(number).gives(owner, unit) for number in held.numbers()]) - held.holds(owner, unit))
    steps = [(0, settled(held))]
    highest = settled_with(held, owner, unit, most)
    while steps[-1][1] != highest:
        steps.append(next_step(held, owner, unit, steps[-1], most))
    return steps


def least_help(held, owner, unit, number):
    """The least amount of a unit that a member must have more so that a due settles, or None."""
    held.due(number)
    amounts = [amount for amount, numbers in staircase(held, owner, unit) if number in numbers]
    return amounts[0] if len(amounts) > 0 else None


def shortfalls(held):
    """What owners would lack, by ascending tuples (owner, unit), if all dues were handed over."""
    numbers = held.numbers()
    behind = {door: behind_all(held, numbers, *door) for door in held.doors()}
    return {door: -behind[door] for door in behind if behind[door] < 0}


def settled_without(held, still):
    """The ascending list of what settles if some owners stand still."""
    check_owners(still)
    return greatest_within(held, [number for number in held.numbers() if not is_given_by(held, number, still)])


def sure(held, number):
    """The fewest other owners who keep a due back if they stand still, or None."""
    due = held.due(number)
    others = [owner for owner in held.owners() if owner not in due.owners()]
    # More owners never settle more.
    if number in settled_without(held, others):
        return None
    for many in range(len(others)):
        for still in parts_of_size(others, many):
            if number not in settled_without(held, still):
                return still
    return others


def settled_with(held, owner, unit, amount):
    """What settles if a member has so many more of a unit."""
    return settled(held.with_more(owner, unit, amount))


def next_step(held, owner, unit, step, most):
    """The next step of a staircase, which comes with an amount that is greater, up to the most."""
    low, numbers = step
    high = most
    # With more of a unit no due leaves the greatest set: halving finds the least amount with another one.
    while high - low > 1:
        amount = (low + high) // 2
        if settled_with(held, owner, unit, amount) == numbers:
            low = amount
        else:
            high = amount
    return (high, settled_with(held, owner, unit, high))


def is_given_by(held, number, owners):
    """Whether one of some owners gives in a due."""
    return any([owner in owners for owner, unit in held.due(number).doors()])
