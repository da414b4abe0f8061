"""Cover: what moves of the prices can cost a position, whichever standing orders are filled."""

from evenmarket.errors import BadAmount, MarketError
from evenmarket.names import is_amount, is_count, is_good, is_price, is_whole
from evenmarket.orders import is_side
from evenmarket.positions import check_position, check_priced, check_prices

MOST_MOVES = 8
MOST_ROOM = 12


class BadMove(MarketError):
    """A value is no move, or a first one that is not the empty dict."""

    def __init__(self, given):
        self.given = given


class BadCount(MarketError):
    """There are not so many moves."""

    def __init__(self, count):
        self.count = count


class BadStanding(MarketError):
    """A value is no standing order."""

    def __init__(self, given):
        self.given = given


def loss(position, move):
    """What a position loses by a move."""
    check_position(position)
    if not is_move(move):
        raise BadMove(move)
    return loss_by(position, move)


def need(position, moves):
    """The greatest loss of a position by one of the moves."""
    check_position(position)
    check_moves(moves)
    return need_of(position, moves)


def worst_move(position, moves):
    """The index of the first move that brings the greatest loss."""
    check_position(position)
    check_moves(moves)
    return [loss_by(position, move) for move in moves].index(need_of(position, moves))


def worst(position, orders, moves, prices):
    """The tuple (loss, index, filled) of the greatest loss by one of the moves and by orders that are filled."""
    check_open(position, orders, moves, prices)
    check_orders_priced(orders, prices)
    return worst_of(position, orders, moves, prices)


def covered(position, orders, moves, prices, money):
    """None if the greatest loss is not above the money, otherwise the tuple of `worst`."""
    check_open(position, orders, moves, prices)
    check_money(money)
    check_orders_priced(orders, prices)
    found = worst_of(position, orders, moves, prices)
    return found if found[0] > money else None


def is_uncovered(position, orders, moves, prices, money, value):
    """Whether any value is a tuple of a move and of filled units by which more than the money is lost."""
    check_open(position, orders, moves, prices)
    check_money(money)
    check_orders_priced(orders, prices)
    if not is_filling(value, orders, moves):
        return False
    index, filled = value
    return loss_with(position, moves[index], filled, unit_losses(orders, moves[index], prices)) > money


def room(position, orders, moves, prices, money, side, contract, price):
    """The most units of one standing order more with which the position is still covered, or None."""
    check_open(position, orders, moves, prices)
    check_money(money)
    single = (side, contract, price, 1)
    if not is_standing(single):
        raise BadStanding(single)
    check_orders_priced([*orders, single], prices)
    if worst_of(position, orders, moves, prices)[0] > money:
        return None
    amounts = [amount for amount in range(1, MOST_ROOM + 1)
               if worst_of(position, [*orders, (side, contract, price, amount)], moves, prices)[0] <= money]
    return max([0] + amounts)


def is_move(value):
    """Whether any value is a move."""
    return isinstance(value, dict) and all([is_good(key) and is_whole(value[key]) for key in value])


def is_standing(value):
    """Whether any value is a standing order."""
    if not isinstance(value, tuple) or len(value) != 4:
        return False
    return is_side(value[0]) and is_good(value[1]) and is_price(value[2]) and is_amount(value[3])


def check_moves(moves):
    """Raise what is wrong with a list of any values as moves."""
    if not 1 <= len(moves) <= MOST_MOVES:
        raise BadCount(len(moves))
    for move in moves:
        if not is_move(move):
            raise BadMove(move)
    if len(moves[0]) > 0:
        raise BadMove(moves[0])


def check_open(position, orders, moves, prices):
    """Raise what is wrong with a position, with lists of any values as orders and as moves, or with prices."""
    check_position(position)
    for order in orders:
        if not is_standing(order):
            raise BadStanding(order)
    check_moves(moves)
    check_prices(prices)


def check_money(money):
    """Raise BadAmount for any value that is no integer."""
    if not is_whole(money):
        raise BadAmount(money)


def check_orders_priced(orders, prices):
    """Raise UnknownUnit with the contract of the first order that has no price."""
    check_priced([contract for side, contract, price, amount in orders], prices)


def loss_by(position, move):
    """What a position loses by a move, both being right."""
    return -sum([position[contract] * move.get(contract, 0) for contract in position])


def need_of(position, moves):
    """The greatest loss of a position by one of the moves, all being right."""
    return max([loss_by(position, move) for move in moves])


def unit_losses(orders, move, prices):
    """What a filled unit of each order loses by a move."""
    losses = []
    for side, contract, price, amount in orders:
        above = price - prices[contract] - move.get(contract, 0)
        losses.append(above if side == "buy" else -above)
    return losses


def loss_with(position, move, filled, losses):
    """What a position loses by a move together with filled units, which lose so much each."""
    return loss_by(position, move) + sum([units * one for units, one in zip(filled, losses)])


def worst_of(position, orders, moves, prices):
    """The tuple of `worst`, all being right."""
    found = []
    for move in moves:
        losses = unit_losses(orders, move, prices)
        filled = tuple([order[3] if one > 0 else 0 for order, one in zip(orders, losses)])
        found.append((loss_with(position, move, filled, losses), filled))
    lost = [row[0] for row in found]
    index = lost.index(max(lost))
    return (lost[index], index, found[index][1])


def is_filling(value, orders, moves):
    """Whether any value is a tuple of the index of a move and of a tuple with filled units of each order."""
    if not isinstance(value, tuple) or len(value) != 2 or not is_count(value[0]) or value[0] >= len(moves):
        return False
    if not isinstance(value[1], tuple) or len(value[1]) != len(orders):
        return False
    return all([is_count(units) and units <= order[3] for units, order in zip(value[1], orders)])
