"""Pools: money and a stock of a unit, ready to sell and to buy single units."""

from evenmarket.errors import BadAmount, BadText, BadUnit, MarketError
from evenmarket.names import is_count, is_good, is_whole
from evenmarket.texts import is_numeral

MOST_MONEY = 9999
MOST_STOCK = 99
MOST_DIGITS = 9


class BadPool(MarketError):
    """A value of a pool does not fit."""

    def __init__(self, field, value):
        self.field = field
        self.value = value


class UnlikeUnits(MarketError):
    """A ladder and a pool have different units."""

    def __init__(self, one, other):
        self.one = one
        self.other = other


class NoUnit(MarketError):
    """A pool sells, or buys, no further unit."""


class NoShares(MarketError):
    """What is put into a pool is not worth a share."""


class Pool:
    """A pool never changes."""

    def __init__(self, unit, money, stock, shares):
        if not is_good(unit):
            raise BadUnit(unit)
        for field, value, most in (
                ("money", money, MOST_MONEY), ("stock", stock, MOST_STOCK), ("shares", shares, MOST_MONEY)):
            if not is_whole(value) or not 1 <= value <= most:
                raise BadPool(field, value)
        self.unit = unit
        self.money = money
        self.stock = stock
        self.shares = shares

    def ask(self):
        """The price at which the pool sells its next unit, or None."""
        if self.stock < 2:
            return None
        # The quotient rounded up: what the pool has never becomes worth less by a unit sold.
        return -(-self.money // (self.stock - 1))

    def bid(self):
        """The price at which the pool buys a unit, or None."""
        price = self.money // (self.stock + 1)
        return price if price >= 1 else None

    def sold(self, count=1):
        """The pool behind it has sold so many units."""
        return after(self, self.asks(count), -1, count)

    def bought(self, count=1):
        """The pool behind it has bought so many units."""
        return after(self, self.bids(count), 1, count)

    def asks(self, count):
        """The prices of the next units to be sold, up to so many."""
        check_count(count)
        prices = []
        pool = self
        while len(prices) < count and pool.ask() is not None:
            prices.append(pool.ask())
            pool = changed_by(pool, pool.ask(), -1, 0)
        return prices

    def bids(self, count):
        """The prices of the next units to be bought, up to so many."""
        check_count(count)
        prices = []
        pool = self
        while len(prices) < count and pool.bid() is not None:
            prices.append(pool.bid())
            pool = changed_by(pool, -pool.bid(), 1, 0)
        return prices

    def joined(self, money, stock):
        """The tuple (pool, shares) behind somebody has put in money and units."""
        check_count(money)
        check_count(stock)
        shares = min(money * self.shares // self.money, stock * self.shares // self.stock)
        if shares == 0:
            raise NoShares()
        return changed_by(self, money, stock, shares), shares

    def left(self, shares):
        """The tuple (pool, money, stock) behind so many shares have gone."""
        if not is_whole(shares) or not 1 <= shares < self.shares:
            raise BadAmount(shares)
        money = shares * self.money // self.shares
        stock = shares * self.stock // self.shares
        return changed_by(self, -money, -stock, -shares), money, stock

    def __eq__(self, other):
        return (isinstance(other, Pool) and self.unit == other.unit and self.money == other.money
                and self.stock == other.stock and self.shares == other.shares)

    def __str__(self):
        return f"pool {self.unit} {self.money} {self.stock} {self.shares}"

    @classmethod
    def read(cls, text):
        """The pool with a text."""
        words = text.split(" ") if isinstance(text, str) else []
        if len(words) != 5 or words[0] != "pool" or not is_good(words[1]):
            raise BadText()
        if not all([is_pool_numeral(word) for word in words[2:]]):
            raise BadText()
        # The numbers of a pool that deeds returned may be greater than those that can be passed.
        pool = cls(words[1], 1, 1, 1)
        pool.money, pool.stock, pool.shares = [int(word) for word in words[2:]]
        return pool


def changed_by(pool, money, stock, shares):
    """The pool with so much more of each, whatever numbers come of it."""
    other = Pool(pool.unit, 1, 1, 1)
    other.money = pool.money + money
    other.stock = pool.stock + stock
    other.shares = pool.shares + shares
    return other


def after(pool, prices, step, count):
    """The pool behind units at these prices, which must be `count`, each changing the stock by a step."""
    if len(prices) < count:
        raise NoUnit()
    return changed_by(pool, -step * sum(prices), step * count, 0)


def check_count(count):
    """Raise BadAmount for any value that is no integer from 0."""
    if not is_count(count):
        raise BadAmount(count)


def is_pool_numeral(word):
    """Whether a word is an integer from 1 of at most nine digits."""
    return is_numeral(word) and word != "0" and len(word) <= MOST_DIGITS
