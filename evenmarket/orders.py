"""Orders: who wants to buy or to sell how many units, and at which price."""

from evenmarket.errors import BadText, MarketError
from evenmarket.names import is_count, is_good, is_member, is_name, is_price, is_whole
from evenmarket.texts import is_numeral

SIDES = ("buy", "sell")
KINDS = ("stays", "once", "whole")


class BadOrder(MarketError):
    """A value of an order, or an order as a whole, does not fit."""

    def __init__(self, field, value):
        self.field = field
        self.value = value


class BadSide(MarketError):
    """A value is neither `buy` nor `sell`."""

    def __init__(self, given):
        self.given = given


class NameTaken(MarketError):
    """An order with this name stands."""

    def __init__(self, name):
        self.name = name


class UnknownOrder(MarketError):
    """No order with this name stands."""

    def __init__(self, name):
        self.name = name


class Crossing(MarketError):
    """The price of the order with this name meets the other side."""

    def __init__(self, name):
        self.name = name


class Order:
    """An order never changes."""

    def __init__(self, name, member, side, unit, price, amount, shows=None, kind="stays", most=None):
        check_values((
            ("name", name, is_name(name)),
            ("member", member, is_member(member)),
            ("side", side, is_side(side)),
            ("unit", unit, is_good(unit)),
            ("price", price, price is None or is_price(price)),
            ("amount", amount, is_order_amount(amount)),
            ("shows", shows, shows is None or is_slice(shows, amount)),
            ("kind", kind, kind in KINDS),
            ("most", most, most is None or is_count(most))))
        # Only now the values can be looked at together.
        check_values((
            ("kind", kind, price is not None or kind != "stays"),
            ("shows", shows, shows is None or kind == "stays"),
            ("most", most, most is None or (side == "buy" and price is None))))
        self.name = name
        self.member = member
        self.side = side
        self.unit = unit
        self.price = price
        self.amount = amount
        self.shows = amount if shows is None else shows
        self.kind = kind
        self.most = most

    def __eq__(self, other):
        return (isinstance(other, Order) and self.name == other.name and self.member == other.member
                and self.side == other.side and self.unit == other.unit and self.price == other.price
                and self.amount == other.amount and self.shows == other.shows and self.kind == other.kind
                and self.most == other.most)

    def __str__(self):
        return " ".join([self.name, self.member, self.side, self.unit, price_word(self.price), str(self.amount)]
                        + words_behind(self))

    @classmethod
    def read(cls, text):
        """The order with a text."""
        if not isinstance(text, str):
            raise BadText()
        words = text.split(" ")
        if len(words) < 6 or not is_price_word(words[4]) or not is_numeral(words[5]):
            raise BadText()
        name, member, side, unit = words[:4]
        price = None if words[4] == "any" else int(words[4])
        shows, kind, most = told_behind(words[6:])
        try:
            order = cls(name, member, side, unit, price, int(words[5]), shows, kind, most)
        except BadOrder:
            raise BadText() from None
        # Words that are left over, or that show all units, make an order with another text.
        if str(order) != text:
            raise BadText()
        return order


def is_side(value):
    """Whether any value is a side."""
    return value in SIDES


def check_side(side):
    """Raise BadSide for any value that is no side."""
    if not is_side(side):
        raise BadSide(side)


def other_side(side):
    """The side that a side trades with."""
    return "sell" if side == "buy" else "buy"


def meets(order, price):
    """Whether the price of an order meets a price of the other side."""
    if order.price is None:
        return True
    return order.price >= price if order.side == "buy" else order.price <= price


def rank(order):
    """An integer that is less for a better price of the same side."""
    return -order.price if order.side == "buy" else order.price


def check_values(told):
    """Raise BadOrder for the first of some tuples (field, value, fits) that does not fit."""
    for field, value, fits in told:
        if not fits:
            raise BadOrder(field, value)


def is_order_amount(value):
    """Whether any value is the amount of an order."""
    return is_whole(value) and 1 <= value <= 99


def is_slice(shows, amount):
    """Whether any two values are a number of shown units and an amount that has them."""
    return is_whole(shows) and is_order_amount(amount) and 1 <= shows <= amount


def price_word(price):
    """The word of a price, or of None."""
    return "any" if price is None else str(price)


def is_price_word(word):
    """Whether a word can be that of a price or of None."""
    return word == "any" or is_numeral(word)


def words_behind(order):
    """The words behind the amount in the text of an order."""
    return ((["shows", str(order.shows)] if order.shows < order.amount else [])
            + ([order.kind] if order.kind != "stays" else [])
            + (["most", str(order.most)] if order.most is not None else []))


def told_behind(words):
    """The tuple (shows, kind, most) that the words behind the amount begin with."""
    shows, words = number_behind("shows", words)
    kind = "stays"
    if words[:1] == ["once"] or words[:1] == ["whole"]:
        kind = words[0]
        words = words[1:]
    most, words = number_behind("most", words)
    return shows, kind, most


def number_behind(word, words):
    """The integer behind a word, if the words begin with it, otherwise None; and the words behind that."""
    if len(words) < 2 or words[0] != word or not is_numeral(words[1]):
        return None, words
    return int(words[1]), words[2:]
