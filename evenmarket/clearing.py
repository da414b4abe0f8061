"""Auctions at one price: what is cleared, and a paper that shows that nothing clears more."""

from evenmarket.errors import BadPrice, MarketError
from evenmarket.names import is_member, is_name, is_price, is_whole
from evenmarket.orders import SIDES, is_side

MOST_BIDS = 12
MOST_UNITS = 12
LEAST_PRICE = 1
GREATEST_PRICE = 99


class BadBid(MarketError):
    """A value is no auction order, or no side of one."""

    def __init__(self, given):
        self.given = given


class TooManyBids(MarketError):
    """There are more than 12 auction orders."""

    def __init__(self, given):
        self.given = given


class BidTaken(MarketError):
    """An earlier auction order has this name."""

    def __init__(self, given):
        self.given = given


class BothSides(MarketError):
    """A member has auction orders on both sides."""

    def __init__(self, given):
        self.given = given


class NoClearing(MarketError):
    """There is no clearing price."""


def counts(orders, price):
    """The tuple (bought, sold) of the units that can be traded at a price."""
    check_bids_at(orders, price)
    return counts_at(orders, price)


def volume(orders, price):
    """How many units are traded at a price."""
    check_bids_at(orders, price)
    return volume_at(orders, price)


def left(orders, price):
    """The units bought less those sold at a price."""
    check_bids_at(orders, price)
    return left_at(orders, price)


def best(orders):
    """The tuple of the least and the greatest price with the greatest volume, or None."""
    check_bids(orders)
    return best_of(orders)


def clearing(orders, told):
    """The tuple of the clearing price and its volume, or None."""
    check_bids_at(orders, told)
    return clearing_of(orders, told)


def fills(orders, price):
    """The dict from the names of the orders that get units at a price to their numbers."""
    check_bids_at(orders, price)
    return {name: units for side in SIDES for name, units in filled(orders, side, price)}


def pairs(orders, price):
    """The tuples (buyer, seller, amount) of the units traded at a price, by orders."""
    check_bids_at(orders, price)
    return pairs_at(orders, price)


def gain(orders, price):
    """The gain of all units traded at a price."""
    check_bids_at(orders, price)
    return gain_at(orders, price)


def greatest_gain(orders):
    """The greatest gain of any trades, each at a price of its own."""
    check_bids(orders)
    span = best_of(orders)
    return 0 if span is None else gain_at(orders, span[0])


def is_paper(orders, value):
    """Whether any value is a right paper."""
    check_bids(orders)
    if not isinstance(value, tuple) or len(value) != 5 or not all([is_whole(item) for item in value]):
        return False
    price, amount, above, beneath, mark = value
    if not is_price(price) or not is_price(mark):
        return False
    if amount < 1 or amount != volume_at(orders, price) or (above, beneath) != keener(orders, price):
        return False
    return above <= amount and beneath <= amount and bound(orders, mark) == gain_at(orders, price)


def paper_of(orders, told):
    """The right paper of the clearing price with the least mark."""
    found = clearing(orders, told)
    if found is None:
        raise NoClearing()
    price, amount = found
    above, beneath = keener(orders, price)
    reached = gain_at(orders, price)
    marks = [mark for mark in all_prices() if bound(orders, mark) == reached]
    return (price, amount, above, beneath, marks[0])


def turning(orders, told, side, price):
    """The least number of units of one more order that makes the clearing price another one, or None."""
    check_bids_at(orders, told)
    if not is_side(side):
        raise BadBid(side)
    if price is not None:
        check_price(price)
    if len(orders) == MOST_BIDS:
        raise TooManyBids(MOST_BIDS + 1)
    before = clearing_price(orders, told)
    for units in range(1, MOST_UNITS + 1):
        # Neither names nor members have a part in the clearing price.
        if clearing_price([*orders, ("", "", side, price, units)], told) != before:
            return units
    return None


def is_bid(value):
    """Whether any value is an auction order."""
    if not isinstance(value, tuple) or len(value) != 5:
        return False
    name, member, side, price, amount = value
    return (is_name(name) and is_member(member) and is_side(side) and (price is None or is_price(price))
            and is_whole(amount) and 1 <= amount <= MOST_UNITS)


def check_bids(orders):
    """Raise what is wrong with a list of auction orders."""
    for bid in orders:
        if not is_bid(bid):
            raise BadBid(bid)
    if len(orders) > MOST_BIDS:
        raise TooManyBids(len(orders))
    names = [bid[0] for bid in orders]
    for at, name in enumerate(names):
        if name in names[:at]:
            raise BidTaken(name)
    for at, bid in enumerate(orders):
        if is_on_other_side(orders[:at], bid[1], bid[2]):
            raise BothSides(bid[1])


def check_bids_at(orders, price):
    """Raise what is wrong with a list of auction orders, or with a price."""
    check_bids(orders)
    check_price(price)


def is_on_other_side(orders, member, side):
    """Whether a member has an order on the other side."""
    return any([bid[1] == member and bid[2] != side for bid in orders])


def check_price(price):
    """Raise BadPrice for any value that is no price."""
    if not is_price(price):
        raise BadPrice(price)


def all_prices():
    """The list of all prices, ascending."""
    return list(range(LEAST_PRICE, GREATEST_PRICE + 1))


def worth(bid):
    """The price of an auction order, with what None counts as."""
    if bid[3] is not None:
        return bid[3]
    return GREATEST_PRICE if bid[2] == "buy" else LEAST_PRICE


def rise(bid, price):
    """How much better than a price the worth of an auction order is, below 0 if it is worse."""
    return worth(bid) - price if bid[2] == "buy" else price - worth(bid)


def of_side(orders, side):
    """The auction orders of a side."""
    return [bid for bid in orders if bid[2] == side]


def counts_at(orders, price):
    """What `counts` tells."""
    bought, sold = [sum([bid[4] for bid in of_side(orders, side) if rise(bid, price) >= 0]) for side in SIDES]
    return bought, sold


def volume_at(orders, price):
    """What `volume` tells."""
    return min(counts_at(orders, price))


def left_at(orders, price):
    """What `left` tells."""
    bought, sold = counts_at(orders, price)
    return bought - sold


def best_of(orders):
    """What `best` tells."""
    volumes = {price: volume_at(orders, price) for price in all_prices()}
    greatest = max([volumes[price] for price in volumes])
    if greatest == 0:
        return None
    prices = [price for price in volumes if volumes[price] == greatest]
    return prices[0], prices[-1]


def clearing_of(orders, told):
    """What `clearing` tells."""
    span = best_of(orders)
    if span is None:
        return None
    over = {price: left_at(orders, price) for price in range(span[0], span[1] + 1)}
    fewest = min([abs(over[price]) for price in over])
    fitting = {price: over[price] for price in over if abs(over[price]) == fewest}
    return chosen(fitting, told), volume_at(orders, span[0])


def clearing_price(orders, told):
    """The clearing price, or None."""
    found = clearing_of(orders, told)
    return None if found is None else found[0]


def chosen(over, told):
    """The clearing price of those with the fewest units left over, a dict from them to these units."""
    buys = [price for price in over if over[price] > 0]
    sells = [price for price in over if over[price] < 0]
    if len(buys) == 0 and len(sells) == 0:
        return min(list(over), key=lambda near: abs(near - told))
    if len(buys) == 0:
        return min(sells)
    if len(sells) == 0:
        return max(buys)
    return min(sells) if told >= min(sells) else max(buys)


def in_turn(orders, side, price):
    """The orders of a side that can trade at a price, in their turn."""
    able = [bid for bid in of_side(orders, side) if rise(bid, price) >= 0]
    return sorted(able, key=lambda bid: -rise(bid, price))


def filled(orders, side, price):
    """The tuples (name, units) of the orders of a side that get units at a price, in their turn."""
    rest = volume_at(orders, price)
    told = []
    for bid in in_turn(orders, side, price):
        units = min(bid[4], rest)
        if units > 0:
            told.append((bid[0], units))
        rest -= units
    return told


def names_of_units(orders, side, price):
    """For each unit that a side trades at a price, in turn, the name of its order."""
    return [name for name, units in filled(orders, side, price) for _ in range(units)]


def pairs_at(orders, price):
    """What `pairs` tells."""
    told = []
    for buyer, seller in zip(names_of_units(orders, "buy", price), names_of_units(orders, "sell", price)):
        if len(told) > 0 and told[-1][:2] == (buyer, seller):
            told[-1] = (buyer, seller, told[-1][2] + 1)
        else:
            told.append((buyer, seller, 1))
    return told


def gain_at(orders, price):
    """What `gain` tells."""
    worths = {bid[0]: worth(bid) for bid in orders}
    return sum([(worths[buyer] - worths[seller]) * units for buyer, seller, units in pairs_at(orders, price)])


def keener(orders, price):
    """The tuple of the numbers of units of orders to buy at higher prices, and to sell at lower ones."""
    above, beneath = [sum([bid[4] for bid in of_side(orders, side) if rise(bid, price) > 0]) for side in SIDES]
    return above, beneath


def bound(orders, mark):
    """What the worths of all units to buy are above a mark, and those of all units to sell beneath it, in all."""
    return sum([bid[4] * max(0, rise(bid, mark)) for bid in orders])
