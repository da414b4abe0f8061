"""Ladders, matching and pools once more, unit by unit and as plainly as the document's words, to compare with."""


class Stand:
    """The state of one unit: queues of slices, each a list [name, units], by side and price."""

    def __init__(self):
        self.orders = {}
        self.left = {}
        self.queues = {}

    def add(self, order, left):
        self.orders[order.name] = order
        self.left[order.name] = left
        self.queues.setdefault((order.side, order.price), []).append([order.name, min(left, order.shows)])

    def slices(self, side):
        """All slices of a side, from the best price on."""
        prices = sorted([price for one, price in self.queues if one == side], reverse=side == "buy")
        return [entry for price in prices for entry in self.queues[(side, price)]]

    def drop(self, name):
        order = self.orders.pop(name)
        del self.left[name]
        queue = self.queues[(order.side, order.price)]
        queue[:] = [entry for entry in queue if entry[0] != name]

    def lessen(self, name, units):
        for _ in range(units):
            entry = self.entry(name)
            hidden = self.left[name] - entry[1]
            if hidden == 0:
                entry[1] -= 1
            self.left[name] -= 1

    def entry(self, name):
        order = self.orders[name]
        return [entry for entry in self.queues[(order.side, order.price)] if entry[0] == name][0]

    def take(self, side):
        """Take the first unit of a side; the name of its order."""
        entry = self.slices(side)[0]
        name = entry[0]
        order = self.orders[name]
        entry[1] -= 1
        self.left[name] -= 1
        if entry[1] == 0:
            self.queues[(side, order.price)].pop(0)
            if self.left[name] > 0:
                self.queues[(side, order.price)].append([name, min(order.shows, self.left[name])])
            else:
                del self.orders[name], self.left[name]
        return name

    def twin(self):
        other = Stand()
        other.orders = dict(self.orders)
        other.left = dict(self.left)
        other.queues = {key: [list(entry) for entry in queue] for key, queue in self.queues.items()}
        return other

    def units(self, side):
        other = self.twin()
        row = []
        while other.slices(side):
            price = other.orders[other.slices(side)[0][0]].price
            row.append((other.take(side), price))
        return row


def seen(stand):
    """Everything that a ladder in this state tells, by side."""
    told = {}
    for side in ["buy", "sell"]:
        slices = stand.slices(side)
        row = stand.units(side)
        names = [name for name, units in slices]
        prices = []
        for name in names:
            if stand.orders[name].price not in prices:
                prices.append(stand.orders[name].price)
        shown = [(price, sum(units for name, units in slices if stand.orders[name].price == price),
                  sum(1 for name in names if stand.orders[name].price == price)) for price in prices]
        places = {}
        for at, name in enumerate(names):
            own = [spot for spot, item in enumerate(row) if item[0] == name]
            places[name] = (sum(units for other, units in slices[:at]), min(own), max(own) + 1)
        told[side] = (names, prices[0] if prices else None, shown, row, places,
                      {name: stand.left[name] for name in names}, dict(slices))
    return told


def told_by(ladder):
    """The same of a ladder."""
    told = {}
    for side in ["buy", "sell"]:
        names = ladder.names(side)
        told[side] = (names, ladder.best(side), ladder.shown(side), ladder.units(side),
                      {name: ladder.place(name) for name in names}, {name: ladder.left(name) for name in names},
                      {name: ladder.in_slice(name) for name in names})
    return told


def enter(stand, order):
    """What [28] and [29] say, one unit after the other; the events."""
    before = stand.twin()
    other = "sell" if order.side == "buy" else "buy"
    events = []
    left = order.amount
    most = order.most
    word = "once"
    while left and stand.slices(other):
        name = stand.slices(other)[0][0]
        first = stand.orders[name]
        if order.price is not None:
            if order.side == "buy" and order.price < first.price or order.side == "sell" and order.price > first.price:
                break
        if first.member == order.member:
            events.append(("dropped", name, stand.left[name], "own"))
            stand.drop(name)
            continue
        if most is not None and first.price > most:
            word = "most"
            break
        stand.take(other)
        left -= 1
        if most is not None:
            most -= first.price
        both = (order.name, name) if order.side == "buy" else (name, order.name)
        event = ("trade", *both, first.price)
        if events and events[-1][:4] == event:
            events[-1] = (*event, events[-1][4] + 1)
        else:
            events.append((*event, 1))
    if left == 0:
        return events
    if order.kind == "whole":
        stand.orders, stand.left, stand.queues = before.orders, before.left, before.queues
        return [("dropped", order.name, order.amount, "whole")]
    if order.kind == "stays":
        stand.add(order, left)
        return events + [("stands", order.name, left)]
    return events + [("dropped", order.name, left, word)]


class Stock:
    """The state of a pool: its money and its stock."""

    def __init__(self, money, stock):
        self.money = money
        self.stock = stock

    def price(self, side):
        """The price for an order of a side, or None."""
        if side == "buy":
            return None if self.stock < 2 else (self.money + self.stock - 2) // (self.stock - 1)
        return self.money // (self.stock + 1) or None

    def trade(self, side):
        price = self.price(side)
        self.money += price if side == "buy" else -price
        self.stock += -1 if side == "buy" else 1
        return price


def enter_beside(stand, stock, order):
    """What [44] says, one unit after the other; the events."""
    before, pooled = stand.twin(), (stock.money, stock.stock)
    other = "sell" if order.side == "buy" else "buy"
    sign = 1 if order.side == "buy" else -1
    events = []
    left = order.amount
    most = order.most
    word = "once"
    while left:
        slices = stand.slices(other)
        first = stand.orders[slices[0][0]] if slices else None
        offers = []
        if first:
            offers.append((sign * first.price, 0))
        if stock.price(order.side) is not None:
            offers.append((sign * stock.price(order.side), 1))
        if not offers:
            break
        price, which = min(offers)
        price *= sign
        if order.price is not None and sign * order.price < sign * price:
            break
        if which == 0 and first.member == order.member:
            events.append(("dropped", first.name, stand.left[first.name], "own"))
            stand.drop(first.name)
            continue
        if most is not None and price > most:
            word = "most"
            break
        if which == 0:
            stand.take(other)
            both = (order.name, first.name) if order.side == "buy" else (first.name, order.name)
            event = ("trade", *both, price)
        else:
            stock.trade(order.side)
            event = ("pool", order.name, price)
        left -= 1
        if most is not None:
            most -= price
        if events and events[-1][:-1] == event:
            events[-1] = (*event, events[-1][-1] + 1)
        else:
            events.append((*event, 1))
    if left == 0:
        return events
    if order.kind == "whole":
        stand.orders, stand.left, stand.queues = before.orders, before.left, before.queues
        stock.money, stock.stock = pooled
        return [("dropped", order.name, order.amount, "whole")]
    if order.kind == "stays":
        stand.add(order, left)
        return events + [("stands", order.name, left)]
    return events + [("dropped", order.name, left, word)]
