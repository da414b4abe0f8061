"""Ladders: the orders that stand for one unit, in their queues."""

from evenmarket.errors import BadAmount, BadUnit
from evenmarket.names import is_count, is_good, is_whole
from evenmarket.orders import BadOrder, Crossing, NameTaken, Order, SIDES, UnknownOrder
from evenmarket.orders import check_side, meets, other_side, rank


class Ladder:
    """A ladder never changes: the methods with an underscore change only ladders that nobody has yet.

    Each side has one list of names, by prices and then by the slices of a price: each order has just one slice.
    """

    def __init__(self, unit):
        if not is_good(unit):
            raise BadUnit(unit)
        self.unit = unit
        self._orders = {}
        self._left = {}
        self._slices = {}
        self._queues = {side: [] for side in SIDES}

    def placed(self, order, left=None):
        """The ladder on which an order stands, too, with so many units left."""
        if not isinstance(order, Order) or order.unit != self.unit or order.kind != "stays":
            raise BadOrder("order", order)
        if order.name in self:
            raise NameTaken(order.name)
        if left is not None and not is_from_to(left, 1, order.amount):
            raise BadAmount(left)
        price = self.best(other_side(order.side))
        if price is not None and meets(order, price):
            raise Crossing(order.name)
        ladder = self._twin()
        ladder._orders[order.name] = order
        ladder._left[order.name] = order.amount if left is None else left
        ladder._show(order)
        return ladder

    def dropped(self, name):
        """The ladder on which an order stands no more."""
        self._check_known(name)
        ladder = self._twin()
        ladder._forget(name)
        return ladder

    def lessened(self, name, units):
        """The ladder on which an order has so many units less, hidden ones first."""
        self._check_known(name)
        if not is_from_to(units, 1, self._left[name] - 1):
            raise BadAmount(units)
        ladder = self._twin()
        ladder._left[name] -= units
        ladder._slices[name] = min(self._slices[name], ladder._left[name])
        return ladder

    def taken(self, side, units):
        """The ladder behind so many first units of a side were taken."""
        check_side(side)
        if not is_from_to(units, 0, sum([self._left[name] for name in self._queues[side]])):
            raise BadAmount(units)
        ladder = self._twin()
        while units > 0:
            name = ladder._queues[side][0]
            some = min(units, ladder._slices[name])
            ladder._take(name, some)
            units -= some
        return ladder

    def names(self, side):
        """The names of the orders of a side, from the best price on."""
        check_side(side)
        return list(self._queues[side])

    def order(self, name):
        """The order with a name."""
        self._check_known(name)
        return self._orders[name]

    def left(self, name):
        """The units that an order has left."""
        self._check_known(name)
        return self._left[name]

    def in_slice(self, name):
        """The units in the slice of an order."""
        self._check_known(name)
        return self._slices[name]

    def best(self, side):
        """The best price of a side, or None."""
        check_side(side)
        queue = self._queues[side]
        return None if len(queue) == 0 else self._orders[queue[0]].price

    def shown(self, side):
        """The tuples (price, units, slices) that everybody sees, from the best price on."""
        told = {}
        for name in self.names(side):
            price = self._orders[name].price
            units, slices = told.get(price, (0, 0))
            told[price] = (units + self._slices[name], slices + 1)
        return [(price, *told[price]) for price in told]

    def units(self, side):
        """The row of units of a side: a tuple (name, price) for each one."""
        check_side(side)
        ladder = self._twin()
        row = []
        while len(ladder._queues[side]) > 0:
            name = ladder._queues[side][0]
            some = ladder._slices[name]
            row.extend([(name, self._orders[name].price)] * some)
            ladder._take(name, some)
        return row

    def worth(self, side, units):
        """The sum of the prices of so many first units of a side, None if there are fewer."""
        prices = [price for name, price in self.units(side)]
        if not is_count(units):
            raise BadAmount(units)
        return sum(prices[:units]) if units <= len(prices) else None

    def place(self, name):
        """The tuple (shown, ahead, last) of where an order stands."""
        self._check_known(name)
        side = self._orders[name].side
        queue = self._queues[side]
        row = [ahead for ahead, price in self.units(side)]
        places = [at for at, one in enumerate(row) if one == name]
        return (sum([self._slices[ahead] for ahead in queue[:queue.index(name)]]), places[0], places[-1] + 1)

    def __contains__(self, name):
        return isinstance(name, str) and name in self._orders

    def __len__(self):
        return len(self._orders)

    def __eq__(self, other):
        return (isinstance(other, Ladder) and self.unit == other.unit and self._queues == other._queues
                and self._orders == other._orders and self._left == other._left and self._slices == other._slices)

    def _check_known(self, name):
        if name not in self:
            raise UnknownOrder(name)

    def _twin(self):
        """A ladder in the same state, to be changed."""
        ladder = Ladder(self.unit)
        ladder._orders = dict(self._orders)
        ladder._left = dict(self._left)
        ladder._slices = dict(self._slices)
        ladder._queues = {side: list(self._queues[side]) for side in SIDES}
        return ladder

    def _show(self, order):
        """Let the next slice of an order come to the end of its queue."""
        self._slices[order.name] = min(order.shows, self._left[order.name])
        queue = self._queues[order.side]
        at = len([name for name in queue if rank(self._orders[name]) <= rank(order)])
        queue.insert(at, order.name)

    def _take(self, name, units):
        """Take some units of the slice of an order."""
        order = self._orders[name]
        self._left[name] -= units
        self._slices[name] -= units
        if self._left[name] == 0:
            self._forget(name)
        elif self._slices[name] == 0:
            self._queues[order.side].remove(name)
            self._show(order)

    def _forget(self, name):
        """Let an order stand no more."""
        self._queues[self._orders[name].side].remove(name)
        del self._orders[name]
        del self._left[name]
        del self._slices[name]


def is_from_to(value, least, greatest):
    """Whether any value is an integer from one number to another one."""
    return is_whole(value) and least <= value <= greatest
