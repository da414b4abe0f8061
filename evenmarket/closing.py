"""Closing out: what is closed of a position if money does not meet its need, and the covering of a day."""

from evenmarket.cover import check_money, check_moves, need_of
from evenmarket.errors import BadAmount, MarketError
from evenmarket.names import is_count, is_whole
from evenmarket.positions import check_position


class BadClosing(MarketError):
    """A value is no dict of units that a position has."""

    def __init__(self, given):
        self.given = given


def closings(position, moves, money):
    """How many units of each contract are closed, by ascending names."""
    check_position(position)
    check_moves(moves)
    check_money(money)
    return closings_of(position, moves, money)


def closed(position, closing):
    """The position that a closing leaves."""
    check_position(position)
    if not is_part(position, closing):
        raise BadClosing(closing)
    return left_of(position, closing)


def is_closing(position, moves, money, value):
    """Whether any value is the dict of what is closed."""
    found = closings(position, moves, money)
    return isinstance(value, dict) and all([is_whole(value[key]) for key in value]) and value == found


def covering(position, moves, cover, free):
    """The tuple (cover, free, closing, lack) behind the covering of a day."""
    check_position(position)
    check_moves(moves)
    if not is_count(cover):
        raise BadAmount(cover)
    check_money(free)
    money = cover + free
    closing = closings_of(position, moves, money)
    if money < 0:
        return (0, 0, closing, -money)
    needed = need_of(left_of(position, closing), moves)
    return (needed, money - needed, closing, 0)


def is_part(position, value):
    """Whether any value is a dict of units that a position has."""
    if not isinstance(value, dict) or not all([key in position for key in value]):
        return False
    return all([is_whole(value[key]) and 1 <= value[key] <= abs(position[key]) for key in value])


def left_of(position, closing):
    """The position that a closing leaves, both being right."""
    left = {}
    for contract in position:
        units = closing.get(contract, 0)
        left[contract] = position[contract] - units if position[contract] > 0 else position[contract] + units
    return {contract: left[contract] for contract in left if left[contract] != 0}


def closings_of(position, moves, money):
    """What is closed of a position, all being right."""
    names = sorted(position)
    sizes = [abs(position[name]) for name in names]
    if money >= 0:
        for total in range(sum(sizes)):
            for numbers in choices(total, sizes):
                closing = {name: units for name, units in zip(names, numbers) if units > 0}
                if need_of(left_of(position, closing), moves) <= money:
                    return closing
    return dict(zip(names, sizes))


def choices(total, sizes):
    """The tuples of numbers up to some sizes that sum to a total, those with more of the first one ahead."""
    if len(sizes) == 0:
        return [()] if total == 0 else []
    return [(units, *rest) for units in range(min(total, sizes[0]), -1, -1)
            for rest in choices(total - units, sizes[1:])]
