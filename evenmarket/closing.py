"""Closing out: what is closed of a position if money does not meet its need, and the covering of a day."""

from evenmarket.cover import check_money, check_moves, loss_by, need_of
from evenmarket.errors import BadAmount, MarketError
from evenmarket.names import is_count, is_whole
from evenmarket.positions import check_position


class BadClosing(MarketError):
    """A value is no dict of units that a position has."""

    def __init__(self, given):
        self.given = given


def closings(position, moves, money):
    """How many units of each contract are closed, by ascending names."""
    check_position(position)
    check_moves(moves)
    check_money(money)
    return closings_of(position, moves, money)


def closed(position, closing):
    """The position that a closing leaves."""
    check_position(position)
    if not is_part(position, closing):
        raise BadClosing(closing)
    return left_of(position, closing)


def is_closing(position, moves, money, value):
    """Whether any value is the dict of what is closed."""
    found = closings(position, moves, money)
    return isinstance(value, dict) and all([is_whole(value[key]) for key in value]) and value == found


def covering(position, moves, cover, free):
    """The tuple (cover, free, closing, lack) behind the covering of a day."""
    check_position(position)
    check_moves(moves)
    if not is_count(cover):
        raise BadAmount(cover)
    check_money(free)
    money = cover + free
    closing = closings_of(position, moves, money)
    if money < 0:
        return (0, 0, closing, -money)
    needed = need_of(left_of(position, closing), moves)
    return (needed, money - needed, closing, 0)


def is_part(position, value):
    """Whether any value is a dict of units that a position has."""
    if not isinstance(value, dict) or not all([key in position for key in value]):
        return False
    return all([is_whole(value[key]) and 1 <= value[key] <= abs(position[key]) for key in value])


def left_of(position, closing):
    """The position that a closing leaves, both being right."""
    left = {}
    for contract in position:
        units = closing.get(contract, 0)
        left[contract] = position[contract] - units if position[contract] > 0 else position[contract] + units
    return {contract: left[contract] for contract in left if left[contract] != 0}


def closings_of(position, moves, money):
    """What is closed of a position, all being right."""
    names = sorted(position)
    sizes = [abs(position[name]) for name in names]
    if money < 0:
        return dict(zip(names, sizes))
    wants = [(loss_by(position, move) - money, [spared_by(position, move, name) for name in names]) for move in moves]
    numbers = fewest(sizes, wants)
    return {name: units for name, units in zip(names, numbers) if units > 0}


def spared_by(position, move, name):
    """What a position loses less by a move for each unit of a contract that is closed."""
    change = move.get(name, 0)
    return -change if position[name] > 0 else change


def fewest(sizes, wants):
    """The fewest numbers up to some sizes that spare what is wanted; of several ones, those with most of the first.

    A want is a tuple of what must be spared in all, and of what a unit of each number spares. With all units of all
    sizes each want is met.
    """
    # The last two numbers are found at once, so there are two at least.
    missing = [0] * max(0, 2 - len(sizes))
    wants = [(whole, spared + missing) for whole, spared in wants]
    total = 0
    found = split(total, sizes + missing, wants)
    while found is None:
        total += 1
        found = split(total, sizes + missing, wants)
    return found


def split(total, sizes, wants):
    """The numbers up to some sizes that sum to a total and spare what is wanted, with most of the first; or None."""
    if len(sizes) == 2:
        return split_in_two(total, sizes, wants)
    for first in range(min(total, sizes[0]), -1, -1):
        rest = split(total - first, sizes[1:], [(whole - first * spared[0], spared[1:]) for whole, spared in wants])
        if rest is not None:
            return [first, *rest]
    return None


def split_in_two(total, sizes, wants):
    """What `split` tells for two sizes: each want bounds the first number from one side."""
    least, most = max(0, total - sizes[1]), min(total, sizes[0])
    for whole, spared in wants:
        more = spared[0] - spared[1]
        wanted = whole - total * spared[1]
        if more > 0:
            least = max(least, -(-wanted // more))
        elif more < 0:
            most = min(most, wanted // more)
        elif wanted > 0:
            return None
    return [most, total - most] if least <= most else None
