"""The greatest set: which dues of a round can be handed over together."""

from evenmarket.names import is_whole


def goes_together(held, value):
    """Whether any value is a list of different numbers of dues that go together."""
    if not isinstance(value, (list, tuple)) or not all([is_whole(number) for number in value]):
        return False
    numbers = held.numbers()
    if len(set(value)) < len(value) or not all([number in numbers for number in value]):
        return False
    return first_out(held, value) is None


def settled(held):
    """The ascending list of the numbers of the greatest set."""
    numbers = held.numbers()
    out = first_out(held, numbers)
    while out is not None:
        numbers.remove(out)
        out = first_out(held, numbers)
    return numbers


def failed(held):
    """The ascending list of the numbers of all other dues."""
    greatest = settled(held)
    return [number for number in held.numbers() if number not in greatest]


def all_sets(held):
    """The numbers of all sets that go together, those with fewer first."""
    numbers = settled(held)
    for many in range(len(numbers) + 1):
        for part in parts_of_size(numbers, many):
            if goes_together(held, part):
                yield part


def first_out(held, numbers):
    """The number of a due that is in no set of these dues which goes together, None if they all go together.

    In a queue that cannot be handed over so far, it is always the last due of them.
    """
    for owner, unit in held.doors():
        queue = held.queue(owner, unit)
        there = [number for number in queue if number in numbers]
        if len(there) > 0 and (there != queue[:len(there)] or behind_all(held, numbers, owner, unit) < 0):
            return there[-1]
    return None


def behind_all(held, numbers, owner, unit):
    """What an owner has of a unit behind some dues are handed over."""
    dues = [held.due(number) for number in numbers]
    return held.holds(owner, unit) + sum([due.takes(owner, unit) - due.gives(owner, unit) for due in dues])


def parts_of_size(numbers, many):
    """The lists of so many of the numbers, in ascending order."""
    if many == 0:
        return [[]]
    return [[number, *rest] for at, number in enumerate(numbers) for rest in parts_of_size(numbers[at + 1:], many - 1)]
