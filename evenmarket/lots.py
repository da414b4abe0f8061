"""Lots: what a member has of a good, by the days on which it came and by what it cost."""

from evenmarket.errors import BadAmount, BadDay, BadLine, MarketError
from evenmarket.names import is_amount, is_count, is_day, is_whole
from evenmarket.texts import is_numeral

WORDS = ("first", "last", "dearest")


class BadLots(MarketError):
    """A value is no list of lots whose days never fall."""

    def __init__(self, given):
        self.given = given


class BadCost(MarketError):
    """A value is no integer from 0."""

    def __init__(self, given):
        self.given = given


class BadWay(MarketError):
    """A value is no way in which these units can go."""

    def __init__(self, given):
        self.given = given


class NotThere(MarketError):
    """Only so many units are there."""

    def __init__(self, given):
        self.given = given


class BadEvent(MarketError):
    """The item at a place is no event that fits there."""

    def __init__(self, index):
        self.index = index


class BadIndex(MarketError):
    """A value is no place of a list."""

    def __init__(self, given):
        self.given = given


class Lots:
    """Lots never change; they are kept as tuples (day, amount, cost, gone)."""

    def __init__(self, lots=()):
        if not are_lots(lots):
            raise BadLots(lots)
        self._lots = list(lots)

    def lots(self):
        """The list of the lots, also of those with no units left."""
        return list(self._lots)

    def units(self):
        """The number of the units that are there."""
        return sum([there_of(lot) for lot in self._lots])

    def cost(self):
        """What the units that are there cost."""
        return sum([cost_of(lot, there_of(lot)) for lot in self._lots])

    def came(self, day, amount, cost):
        """The Lots with one lot more, at the end."""
        if not is_day(day) or len(self._lots) > 0 and day < self._lots[-1][0]:
            raise BadDay(day)
        if not is_amount(amount):
            raise BadAmount(amount)
        if not is_count(cost):
            raise BadCost(cost)
        return Lots([*self._lots, (day, amount, cost, 0)])

    def went(self, amount, way):
        """The tuple (after, cost, parts) of an amount that goes in a way."""
        if not is_amount(amount):
            raise BadAmount(amount)
        if not is_way(way, len(self._lots)):
            raise BadWay(way)
        check_there(self, amount)
        if not isinstance(way, str) and not fits(self._lots, way, amount):
            raise BadWay(way)
        taken = dict(taken_by(self._lots, amount, way) if isinstance(way, str) else way)
        parts = [(at, taken[at], cost_of(self._lots[at], taken[at])) for at in sorted(taken)]
        after = [less(lot, taken.get(at, 0)) for at, lot in enumerate(self._lots)]
        return Lots(after), sum([cost for at, units, cost in parts]), parts

    def text(self):
        """A line for each lot."""
        return "\n".join([" ".join([str(number) for number in lot]) for lot in self._lots])

    @classmethod
    def read(cls, text):
        """The Lots with a text."""
        lots = []
        lines = [] if text == "" else text.split("\n")
        for number, line in enumerate(lines, start=1):
            lot = lot_of(line)
            if not are_lots([*lots[-1:], lot]):
                raise BadLine(number)
            lots.append(lot)
        return cls(lots)

    def __eq__(self, other):
        return isinstance(other, Lots) and self._lots == other._lots


def is_lot(value):
    """Whether any value is a lot."""
    if not isinstance(value, tuple) or len(value) != 4 or not is_day(value[0]) or not is_amount(value[1]):
        return False
    return is_count(value[2]) and is_count(value[3]) and value[3] <= value[1]


def are_lots(value):
    """Whether any value is a list of lots whose days never fall."""
    if not isinstance(value, (list, tuple)) or not all([is_lot(lot) for lot in value]):
        return False
    return all([lot[0] <= later[0] for lot, later in zip(value, value[1:])])


def there_of(lot):
    """How many units of a lot are there."""
    return lot[1] - lot[3]


def cost_of(lot, units):
    """What the next units that go from a lot cost."""
    day, amount, cost, gone = lot
    return cost * (gone + units) // amount - cost * gone // amount


def less(lot, units):
    """A lot of which so many units more are gone."""
    day, amount, cost, gone = lot
    return (day, amount, cost, gone + units)


def is_way(value, many):
    """Whether any value is a word, or a list that names some of so many lots, each once, and units of them."""
    if isinstance(value, str):
        return value in WORDS
    if not isinstance(value, (list, tuple)) or not all([is_named(item, many) for item in value]):
        return False
    return len(set([at for at, units in value])) == len(value)


def is_named(value, many):
    """Whether any value is a tuple of the place of one of so many lots, and of units from 1."""
    return (isinstance(value, tuple) and len(value) == 2 and is_whole(value[0]) and 0 <= value[0] < many
            and is_amount(value[1]))


def check_there(lots, amount):
    """Raise NotThere if the Lots have fewer units."""
    if lots.units() < amount:
        raise NotThere(lots.units())


def fits(lots, way, amount):
    """Whether the lots have what a list names of each, and this is the amount in all."""
    return sum([units for at, units in way]) == amount and all([units <= there_of(lots[at]) for at, units in way])


def taken_by(lots, amount, word):
    """The tuples (place, units) of what goes by a word."""
    taken = []
    for at in turns(lots, word):
        units = min(amount, there_of(lots[at]))
        amount -= units
        if units > 0:
            taken.append((at, units))
    return taken


def turns(lots, word):
    """The places of lots in the order in which a word takes units from them."""
    places = list(range(len(lots)))
    if word == "first":
        return places
    if word == "last":
        return places[::-1]
    # Quotients are compared over a common amount, so that nothing is rounded.
    common = 1
    for day, amount, cost, gone in lots:
        common = common * amount
    return sorted(places, key=lambda at: -lots[at][2] * (common // lots[at][1]))


def lot_of(line):
    """The tuple of the numbers of a line, None if it has no such numbers."""
    words = line.split(" ")
    if not all([is_numeral(word) for word in words]):
        return None
    return tuple([int(word) for word in words])
