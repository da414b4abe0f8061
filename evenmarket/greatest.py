"""The greatest set: which dues of a round can be handed over together."""

from evenmarket.dues import changes_of
from evenmarket.names import is_whole
from evenmarket.sums import summed


def goes_together(held, value):
    """Whether any value is a list of different numbers of dues that go together."""
    if not isinstance(value, (list, tuple)) or not all([is_whole(number) for number in value]):
        return False
    numbers = held.numbers()
    if len(set(value)) < len(value) or not all([number in numbers for number in value]):
        return False
    return greatest_within(held, value) == sorted(value)


def settled(held):
    """The ascending list of the numbers of the greatest set."""
    return greatest_within(held, held.numbers())


def failed(held):
    """The ascending list of the numbers of all other dues."""
    greatest = settled(held)
    return [number for number in held.numbers() if number not in greatest]


def all_sets(held):
    """The numbers of all sets that go together, those with fewer first."""
    queues, changes, has = parts_of_round(held)
    numbers = greatest_of(queues, changes, has, held.numbers())
    for many in range(len(numbers) + 1):
        for part in parts_of_size(numbers, many):
            if greatest_of(queues, changes, has, part) == part:
                yield part


def greatest_within(held, numbers):
    """The ascending list of the greatest set that goes together among some dues of a round."""
    queues, changes, has = parts_of_round(held)
    return greatest_of(queues, changes, has, numbers)


def parts_of_round(held):
    """The queues of a round, what its dues change, and what the owners have, the first and the last one by doors."""
    queues = {door: held.queue(*door) for door in held.doors()}
    changes = {number: changes_of(held.due(number)) for number in held.numbers()}
    return queues, changes, {door: held.holds(*door) for door in queues}


def greatest_of(queues, changes, has, numbers):
    """The ascending list of the greatest set that goes together among some dues, of a round in such parts.

    What cannot be handed over with all that is left is taken out until nothing more is: it is in no set of these.
    """
    left = sorted(numbers)
    behind = summed([has] + [changes[number] for number in left])
    before = -1
    while before != len(left):
        before = len(left)
        for door in queues:
            gone = outs(queues[door], left, behind.get(door, 0))
            for number in gone:
                left.remove(number)
                for place in changes[number]:
                    behind[place] = behind.get(place, 0) - changes[number][place]
    return left


def outs(queue, left, behind):
    """The numbers in a queue that cannot be handed over, of those that are left.

    All behind a due that is taken out; or, if too little is there behind all that are left, the last one of them.
    """
    there = [number for number in queue if number in left]
    begun = 0
    while begun < len(there) and there[begun] == queue[begun]:
        begun += 1
    if begun < len(there):
        return there[begun:]
    return there[-1:] if behind < 0 else []


def behind_all(held, numbers, owner, unit):
    """What an owner has of a unit behind some dues are handed over."""
    dues = [held.due(number) for number in numbers]
    return held.holds(owner, unit) + sum([due.takes(owner, unit) - due.gives(owner, unit) for due in dues])


def parts_of_size(numbers, many):
    """The lists of so many of the numbers, in ascending order."""
    if many == 0:
        return [[]]
    return [[number, *rest] for at, number in enumerate(numbers) for rest in parts_of_size(numbers[at + 1:], many - 1)]
