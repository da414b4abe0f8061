"""Gains: what units that go can cost, and what they bring above that."""

from evenmarket.errors import BadAmount, MarketError
from evenmarket.lots import BadEvent, BadIndex, Lots, check_there, cost_of, there_of
from evenmarket.names import is_amount, is_count, is_day, is_whole


def cost_range(lots, amount):
    """The least and the greatest cost of an amount, each in a tuple (cost, way) with a way that has it."""
    if not is_amount(amount):
        raise BadAmount(amount)
    check_there(lots, amount)
    return dearest_way(lots, amount, -1), dearest_way(lots, amount, 1)


def gains(events):
    """The tuple (lots, gone) of the Lots behind all events, and of what those brought that went."""
    lots = Lots()
    gone = []
    before = 0
    for at, event in enumerate(events):
        if not is_event(event) or event[1] < before:
            raise BadEvent(at)
        before = event[1]
        try:
            lots, told = behind_event(lots, event)
        except MarketError:
            raise BadEvent(at) from None
        gone.extend([(at, *row) for row in told])
    return lots, gone


def turned(events, at, event):
    """The places of the other events whose cost or parts become others if one event is exchanged."""
    if not is_whole(at) or not 0 <= at < len(events):
        raise BadIndex(at)
    before = gains(events)[1]
    if not is_event(event) or event[:2] != events[at][:2]:
        raise BadEvent(at)
    behind = gains([*events[:at], event, *events[at + 1:]])[1]
    return [one[0] for one, other in zip(before, behind) if one[0] != at and (one[1], one[3]) != (other[1], other[3])]


def dearest_way(lots, amount, sign):
    """The tuple (cost, way) of the greatest cost of an amount, of the least one if the sign is -1."""
    found = {0: (0, [])}
    for at, lot in enumerate(lots.lots()):
        further = {}
        for units in found:
            cost, way = found[units]
            for more in range(min(there_of(lot), amount - units) + 1):
                total = cost + cost_of(lot, more)
                if units + more not in further or sign * total > sign * further[units + more][0]:
                    further[units + more] = (total, way + [(at, more)])
        found = further
    cost, way = found[amount]
    return (cost, [(at, units) for at, units in way if units > 0])


def is_event(value):
    """Whether any value is an event, but for what the Lots say to it."""
    if not isinstance(value, tuple) or len(value) < 2 or not is_day(value[1]):
        return False
    if value[0] == "came":
        return len(value) == 4
    return value[0] == "went" and len(value) == 5 and is_count(value[3])


def behind_event(lots, event):
    """The Lots behind an event, and a list of the tuple (cost, gain, parts) if units went."""
    if event[0] == "came":
        word, day, amount, cost = event
        return lots.came(day, amount, cost), []
    word, day, amount, money, way = event
    after, cost, parts = lots.went(amount, way)
    return after, [(cost, money - cost, parts)]
