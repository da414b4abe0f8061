"""Strikes: which dues of a round cannot be handed over, one after the other, and why."""

from evenmarket.dues import BadOwners, Settles
from evenmarket.greatest import behind_all, failed, settled
from evenmarket.names import is_member, is_whole

WORDS = ("still", "behind", "short")


def strikes(held, still=()):
    """The row of strikes to which the first right one is added for as long as there is any."""
    check_owners(still)
    places = [(number, owner, unit, word) for word in WORDS for owner, unit in held.doors()
              for number in held.queue(owner, unit)]
    row = []
    strike = first_right(held, places, row, still)
    while strike is not None:
        row.append(strike)
        strike = first_right(held, places, row, still)
    return row


def are_strikes(held, value, still=()):
    """Whether any value is a list of strikes that are right, one after the other."""
    check_owners(still)
    if not isinstance(value, (list, tuple)) or not all([is_strike(held, strike) for strike in value]):
        return False
    return all([is_right(held, value[:at], strike, still) for at, strike in enumerate(value)])


def strikes_of(held, number):
    """The beginning of `strikes(held)` that ends with the strike of a due."""
    check_fails(held, number)
    row = strikes(held)
    return row[:struck(row).index(number) + 1]


def root(held, number):
    """The tuple (owner, unit) whose lack keeps a due back."""
    check_fails(held, number)
    return roots_of(held)[number]


def roots(held):
    """The dict from the numbers of all failed dues, ascending, to their roots."""
    found = roots_of(held)
    return {number: found[number] for number in failed(held)}


def are_owners(value):
    """Whether any value is a list of different members."""
    if not isinstance(value, (list, tuple)) or not all([is_member(name) for name in value]):
        return False
    return len(set(value)) == len(value)


def check_owners(still):
    """Raise BadOwners for any value that is no list of different members."""
    if not are_owners(still):
        raise BadOwners(still)


def check_fails(held, number):
    """Raise NoDue for any value that is no number of a due, and Settles for a due of the greatest set."""
    held.due(number)
    if number in settled(held):
        raise Settles(number)


def is_strike(held, value):
    """Whether any value is a strike of a due in its queue."""
    if not isinstance(value, tuple) or len(value) != 4:
        return False
    number, owner, unit, word = value
    if not is_whole(number) or not isinstance(owner, str) or not isinstance(unit, str) or word not in WORDS:
        return False
    return number in held.queue(owner, unit)


def struck(row):
    """The numbers of the dues that a row of strikes strikes."""
    return [strike[0] for strike in row]


def first_right(held, places, row, still):
    """The first one of some strikes that is right behind a row, or None."""
    for strike in places:
        if is_right(held, row, strike, still):
            return strike
    return None


def is_right(held, row, strike, still):
    """Whether a strike is right behind a row."""
    number, owner, unit, word = strike
    gone = struck(row)
    if number in gone:
        return False
    if word == "still":
        return owner in still
    queue = held.queue(owner, unit)
    at = queue.index(number)
    if word == "behind":
        return any([ahead in gone for ahead in queue[:at]])
    left = [due for due in held.numbers() if due not in gone]
    return all([later in gone for later in queue[at + 1:]]) and behind_all(held, left, owner, unit) < 0


def roots_of(held):
    """The roots of all failed dues, by the order of their strikes."""
    found = {}
    for number, owner, unit, word in strikes(held):
        if word == "short":
            found[number] = (owner, unit)
        else:
            queue = held.queue(owner, unit)
            ahead = [one for one in queue[:queue.index(number)] if one in found]
            found[number] = found[ahead[-1]]
    return found
