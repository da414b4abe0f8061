"""Matching: what happens when an order comes to a ladder."""

from evenmarket.orders import BadOrder, NameTaken, Order, UnknownOrder, meets, other_side


def entered(ladder, order):
    """The ladder behind an order has come, and the events of it."""
    check_entering(ladder, order)
    behind, events, left, word = met(ladder, order)
    if left > 0 and order.kind == "whole":
        return ladder, not_whole(order)
    return with_rest(behind, order, events, left, word)


def changed(ladder, name, order):
    """The ladder behind an order was dropped and another one has come, and the events of it."""
    if name not in ladder:
        raise UnknownOrder(name)
    check_entering(ladder, order)
    gone = ladder.order(name)
    if order.member != gone.member or order.side != gone.side:
        raise BadOrder("order", order)
    behind, events = entered(ladder.dropped(name), order)
    return behind, [("dropped", name, ladder.left(name), "changed")] + events


def would(ladder, order):
    """The events that there would be if an order came."""
    return entered(ladder, order)[1]


def with_rest(ladder, order, events, left, word):
    """The tuple (ladder, events) behind the units that are left of an order have stood or been dropped."""
    if left == 0:
        return ladder, events
    if order.kind == "stays":
        return ladder.placed(order, left), events + [("stands", order.name, left)]
    return ladder, events + [("dropped", order.name, left, word)]


def not_whole(order):
    """The events of an order that cannot be traded wholly."""
    return [("dropped", order.name, order.amount, "whole")]


def check_entering(ladder, order):
    """Raise what is wrong with any value as an order that comes to a ladder."""
    if not isinstance(order, Order) or order.unit != ladder.unit:
        raise BadOrder("order", order)
    if order.name in ladder:
        raise NameTaken(order.name)


def met(ladder, order):
    """What an order meets: the ladder behind it, the events, the units left, and the word for dropping them."""
    side = other_side(order.side)
    events = []
    left = order.amount
    money = order.most
    while left > 0 and ladder.best(side) is not None and meets(order, ladder.best(side)):
        price = ladder.best(side)
        name = ladder.names(side)[0]
        if ladder.order(name).member == order.member:
            events = events + [("dropped", name, ladder.left(name), "own")]
            ladder = ladder.dropped(name)
            continue
        units = min(left, ladder.in_slice(name))
        if money is not None:
            units = min(units, money // price)
            money -= units * price
        if units == 0:
            return ladder, events, left, "most"
        ladder = ladder.taken(side, units)
        events = with_units(events, trade(order, name, price, units))
        left -= units
    return ladder, events, left, "once"


def trade(order, name, price, units):
    """The event of units that an order trades with the order of a name."""
    if order.side == "buy":
        return ("trade", order.name, name, price, units)
    return ("trade", name, order.name, price, units)


def with_units(events, event):
    """The events and one more; units that differ in nothing from those of the last event are told with them."""
    if len(events) > 0 and events[-1][:-1] == event[:-1]:
        return events[:-1] + [(*event[:-1], events[-1][-1] + event[-1])]
    return events + [event]
