"""Bundles: dues that can only be handed over all at once."""

from evenmarket.greatest import goes_together, greatest_of, greatest_within, parts_of_round, settled


def bundles(held):
    """The ascending lists of all bundles, those with fewer dues first."""
    return grown(held, False)


def unwinding(held):
    """The first bundle, then the first one of the round behind it, and so on."""
    found = []
    first = grown(held, True)
    while len(first) > 0:
        found += first
        held = held.after(first[0])
        first = grown(held, True)
    return found


def is_unwinding(held, value):
    """Whether any value is a list of bundles, each in the round behind those before, that are the greatest set."""
    if not isinstance(value, (list, tuple)):
        return False
    for numbers in value:
        if not is_bundle(held, numbers):
            return False
        held = held.after(numbers)
    return len(settled(held)) == 0


def grown(held, only_first):
    """The ascending lists of all bundles of a round, or of the first one alone, those with fewer dues first.

    A bundle grows out of its least due, by one of the dues that bring what is lacking, until nothing is.
    """
    queues, changes, has = parts_of_round(held)
    ahead = those_ahead(queues, held.numbers())
    within = greatest_from(queues, changes, has, held.numbers())
    growing = {many: {} for many in range(1, len(held) + 1)}
    for number in within:
        growing[len(ahead[number])][tuple(ahead[number])] = True
    found = []
    for many in range(1, len(held) + 1):
        # What grows gets more dues, so all sets with so many are here, and all bundles with fewer are found.
        for some in sorted(growing[many]):
            if any([is_part(bundle, some) for bundle in found]):
                continue
            door = lacking_door(queues, changes, has, some)
            if door is None:
                found.append(list(some))
                if only_first:
                    return found
                continue
            for number in within[some[0]]:
                if number not in some and changes[number].get(door, 0) > 0:
                    more = tuple(sorted(set(list(some) + ahead[number])))
                    growing[len(more)][more] = True
    return found


def those_ahead(queues, numbers):
    """For each due the ascending numbers of it, of those ahead of it, and so on: without them it cannot go."""
    ahead = {number: [number] for number in numbers}
    for door in queues:
        for at, number in enumerate(queues[door]):
            ahead[number] = sorted(set(ahead[number] + queues[door][:at]))
    for between in numbers:
        for number in numbers:
            if between in ahead[number]:
                ahead[number] = sorted(set(ahead[number] + ahead[between]))
    return ahead


def greatest_from(queues, changes, has, numbers):
    """For each due that may be the least one of a bundle, the greatest set among it and those with greater numbers."""
    within = {}
    left = greatest_of(queues, changes, has, numbers)
    while len(left) > 0:
        within[left[0]] = left
        left = greatest_of(queues, changes, has, left[1:])
    return within


def lacking_door(queues, changes, has, numbers):
    """The first door at which dues give more than there is, all at once, or None; those ahead of them are with them."""
    for door in queues:
        if queues[door][0] in numbers:
            if has[door] + sum([changes[number].get(door, 0) for number in numbers]) < 0:
                return door
    return None


def is_part(some, numbers):
    """Whether all of some numbers are among others."""
    return all([number in numbers for number in some])


def is_bundle(held, value):
    """Whether any value is a list of the numbers of a bundle, each once."""
    if not goes_together(held, value) or len(value) == 0:
        return False
    # A lesser part of it lacks one of its dues, so it is within the greatest set without that due.
    return all([len(greatest_within(held, [one for one in value if one != number])) == 0 for number in value])
