"""Auctions that go on: orders are told and taken back until they are cleared at one price."""

from evenmarket.clearing import BadBid, BidTaken, BothSides, MOST_BIDS, TooManyBids
from evenmarket.clearing import check_price, clearing, is_bid, is_on_other_side, left_at, pairs
from evenmarket.errors import BadAmount, BadUnit, MarketError
from evenmarket.names import is_good, is_whole


class BadWidth(MarketError):
    """A value is no integer from 0 to 99."""

    def __init__(self, given):
        self.given = given


class UnknownBid(MarketError):
    """No auction order with this name stands."""

    def __init__(self, given):
        self.given = given


class Cleared(MarketError):
    """The auction has been cleared."""


class Auction:
    """An auction of a unit; names of orders that were taken out stay taken."""

    def __init__(self, unit, told, width):
        if not is_good(unit):
            raise BadUnit(unit)
        check_price(told)
        if not is_whole(width) or not 0 <= width <= 99:
            raise BadWidth(width)
        self._unit = unit
        self._told = told
        self._width = width
        self._phase = "open"
        self._orders = []
        self._names = []

    def tell(self, name, member, side, price, amount):
        """Add an order."""
        self._check_not_cleared()
        bid = (name, member, side, price, amount)
        if not is_bid(bid):
            raise BadBid(bid)
        if name in self._names:
            raise BidTaken(name)
        if is_on_other_side(self._orders, member, side):
            raise BothSides(member)
        if len(self._orders) == MOST_BIDS:
            raise TooManyBids(MOST_BIDS + 1)
        self._orders.append(bid)
        self._names.append(name)

    def lessen(self, name, amount):
        """Give a standing order a lesser amount, at its place."""
        self._check_not_cleared()
        at = self._index_of(name)
        bid = self._orders[at]
        if not is_whole(amount) or not 1 <= amount < bid[4]:
            raise BadAmount(amount)
        self._orders[at] = (*bid[:4], amount)

    def take_out(self, name):
        """Take a standing order out."""
        self._check_not_cleared()
        del self._orders[self._index_of(name)]

    def orders(self):
        """The list of the standing orders."""
        return list(self._orders)

    def shown(self):
        """The tuple (price, amount, left) at the clearing price."""
        found = clearing(self._orders, self._told)
        if found is None:
            return (None, 0, 0)
        return (*found, left_at(self._orders, found[0]))

    def phase(self):
        """One of `open`, `late` and `cleared`."""
        return self._phase

    def clear(self):
        """Clear the auction and tell its trades, or put it off once."""
        self._check_not_cleared()
        found = clearing(self._orders, self._told)
        if self._phase == "open" and (found is None or abs(found[0] - self._told) > self._width):
            self._phase = "late"
            return None
        self._phase = "cleared"
        return [] if found is None else self._trades(found[0])

    def twin(self):
        """Another auction in the same state."""
        auction = Auction(self._unit, self._told, self._width)
        auction._phase = self._phase
        auction._orders = list(self._orders)
        auction._names = list(self._names)
        return auction

    def _check_not_cleared(self):
        if self._phase == "cleared":
            raise Cleared()

    def _index_of(self, name):
        """The place of the standing order with a name, which may be any value."""
        for at, bid in enumerate(self._orders):
            if bid[0] == name:
                return at
        raise UnknownBid(name)

    def _trades(self, price):
        """The trades at a price, by members."""
        members = {bid[0]: bid[1] for bid in self._orders}
        return [(members[buyer], members[seller], self._unit, price, amount)
                for buyer, seller, amount in pairs(self._orders, price)]
