"""Orders that meet a ladder and a pool of the same unit."""

from evenmarket.matching import check_entering, not_whole, trade, with_rest, with_units
from evenmarket.orders import SIDES, meets, other_side
from evenmarket.pools import UnlikeUnits


def beside(ladder, pool, order):
    """The ladder and the pool behind an order has come, and the events of it."""
    check_units(ladder, pool)
    check_entering(ladder, order)
    behind, rest, events, left, word = met_beside(ladder, pool, order)
    if left > 0 and order.kind == "whole":
        return ladder, pool, not_whole(order)
    behind, events = with_rest(behind, order, events, left, word)
    return behind, rest, events


def levelled(ladder, pool):
    """The ladder and the pool behind the orders that stand have met the pool, and the events of it."""
    check_units(ladder, pool)
    events = []
    for side in SIDES:
        while pool_meets(ladder, pool, side):
            events = with_units(events, ("pool", ladder.names(side)[0], pool_price(pool, side), 1))
            ladder = ladder.taken(side, 1)
            pool = pool_behind(pool, side)
    return ladder, pool, events


def cheapest(ladder, pool, side, units):
    """The best money for so many units, and the most units of the ladder with which it is reached, or None."""
    check_units(ladder, pool)
    prices = [price for name, price in ladder.units(side)]
    # The pool looks at the units, as the ladder did at the side.
    others = pool.asks(units) if side == "sell" else pool.bids(units)
    sign = 1 if side == "sell" else -1
    ways = [(sign * (sum(prices[:many]) + sum(others[:units - many])), -many)
            for many in range(min(units, len(prices)) + 1) if units - many <= len(others)]
    if len(ways) == 0:
        return None
    money, many = min(ways)
    return (sign * money, -many)


def check_units(ladder, pool):
    """Raise UnlikeUnits unless a ladder and a pool have the same unit."""
    if ladder.unit != pool.unit:
        raise UnlikeUnits(ladder.unit, pool.unit)


def met_beside(ladder, pool, order):
    """What an order meets: the ladder and the pool behind it, the events, the units left, and the word for them."""
    side = other_side(order.side)
    events = []
    left = order.amount
    money = order.most
    while left > 0:
        price = first_price(ladder, pool, side)
        if price is None or not meets(order, price):
            return ladder, pool, events, left, "once"
        is_of_ladder = ladder.best(side) == price
        name = ladder.names(side)[0] if is_of_ladder else None
        if is_of_ladder and ladder.order(name).member == order.member:
            events = events + [("dropped", name, ladder.left(name), "own")]
            ladder = ladder.dropped(name)
            continue
        if money is not None and price > money:
            return ladder, pool, events, left, "most"
        if is_of_ladder:
            events = with_units(events, trade(order, name, price, 1))
            ladder = ladder.taken(side, 1)
        else:
            events = with_units(events, ("pool", order.name, price, 1))
            pool = pool_behind(pool, order.side)
        left -= 1
        money = None if money is None else money - price
    return ladder, pool, events, left, "once"


def pool_price(pool, side):
    """The price at which a pool trades a unit with an order of a side, or None."""
    return pool.ask() if side == "buy" else pool.bid()


def pool_behind(pool, side):
    """The pool behind it has traded a unit with an order of a side."""
    return pool.sold() if side == "buy" else pool.bought()


def first_price(ladder, pool, side):
    """The better one of the prices that an order meets on a side of a ladder and with a pool, or None."""
    prices = [price for price in (ladder.best(side), pool_price(pool, other_side(side))) if price is not None]
    if len(prices) == 0:
        return None
    return min(prices) if side == "sell" else max(prices)


def pool_meets(ladder, pool, side):
    """Whether a pool trades with the first order of a side that stands."""
    queue = ladder.names(side)
    price = pool_price(pool, side)
    return len(queue) > 0 and price is not None and meets(ladder.order(queue[0]), price)
