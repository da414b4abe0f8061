"""Positions: the contracts that members have bought and sold, and what the prices of days bring them."""

from evenmarket.errors import MarketError
from evenmarket.names import is_good, is_price, is_whole
from evenmarket.sums import summed


class BadPosition(MarketError):
    """A value is no position."""

    def __init__(self, given):
        self.given = given


class BadPrices(MarketError):
    """A value is no dict from contracts to prices."""

    def __init__(self, given):
        self.given = given


class UnknownUnit(MarketError):
    """There is no price of a contract."""

    def __init__(self, given):
        self.given = given


def joined(one, other):
    """The position that has of each contract what both have together."""
    check_position(one)
    check_position(other)
    return summed([one, other])


def net(trades):
    """The positions, by ascending names, of all members who have one behind some trades."""
    return behind({}, trades)


def behind(before, trades):
    """The positions, by ascending names, of all members who have one behind those before and some trades."""
    parts = {name: [before[name]] for name in before}
    for buyer, seller, contract, price, amount in trades:
        parts.setdefault(buyer, []).append({contract: amount})
        parts.setdefault(seller, []).append({contract: -amount})
    positions = {name: summed(parts[name]) for name in sorted(parts)}
    return {name: positions[name] for name in positions if len(positions[name]) > 0}


def marked(before, trades, old, new):
    """What members get, by ascending names, when the positions before and the trades of a day are marked."""
    check_prices(old)
    check_prices(new)
    contracts = [contract for name in before for contract in before[name]]
    check_priced(sorted(contracts), old)
    check_priced(sorted(contracts + [trade[2] for trade in trades]), new)
    brought = [{name: before[name][contract] * (new[contract] - old[contract])}
               for name in before for contract in before[name]]
    for buyer, seller, contract, price, amount in trades:
        gain = amount * (new[contract] - price)
        brought.extend([{buyer: gain}, {seller: -gain}])
    return summed(brought)


def is_position(value):
    """Whether any value is a position."""
    return isinstance(value, dict) and all([is_good(key) and is_whole(value[key]) and value[key] != 0 for key in value])


def check_position(position):
    """Raise BadPosition for any value that is no position."""
    if not is_position(position):
        raise BadPosition(position)


def check_prices(prices):
    """Raise BadPrices for any value that is not a dict from contracts to prices."""
    if not isinstance(prices, dict) or not all([is_good(key) and is_price(prices[key]) for key in prices]):
        raise BadPrices(prices)


def check_priced(contracts, prices):
    """Raise UnknownUnit with the first contract that has no price."""
    for contract in contracts:
        if contract not in prices:
            raise UnknownUnit(contract)
