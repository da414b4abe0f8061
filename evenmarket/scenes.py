"""Scenes: what a console has between two steps, and what each step makes of it."""

from evenmarket.auctions import Auction
from evenmarket.both import beside
from evenmarket.errors import BadName, BadUnit
from evenmarket.ladders import Ladder
from evenmarket.lines import check_many, fact_of, number_of, price_of
from evenmarket.matching import entered
from evenmarket.names import is_member
from evenmarket.orders import NameTaken, Order, UnknownOrder
from evenmarket.pools import Pool
from evenmarket.stalls import Stall
from evenmarket.told import Told


class Scene:
    """What was told, and how each unit is traded; it never changes."""

    def __init__(self, told, stalls):
        self._told = told
        self._stalls = stalls

    def today(self):
        """The least day that is not closed."""
        return self._told.days()

    def facts(self):
        """The list of the facts."""
        return self._told.facts()

    def names(self):
        """The ascending list of the names of all orders that stand or are gathered."""
        return sorted([name for unit in self._stalls
                       for name in list(self._stalls[unit].standing()) + self._stalls[unit].gathered()])

    def check_free(self, name):
        """Raise NameTaken if an order with a name stands or is gathered."""
        if name in self.names():
            raise NameTaken(name)

    def stall(self, unit):
        """The stall of a unit; BadUnit is raised for any value that is none."""
        if unit not in list(self._stalls):
            raise BadUnit(unit)
        return self._stalls[unit]

    def unit_of(self, name):
        """The unit of an order that stands on a ladder."""
        for unit in self._stalls:
            if name in self._stalls[unit].ladder:
                return unit
        raise UnknownOrder(name)

    def with_stall(self, unit, stall):
        """The scene with another stall of a unit."""
        return Scene(self._told, {**self._stalls, unit: stall})

    def with_facts(self, facts):
        """The scene behind some facts have been told."""
        told = self._told.twin()
        for fact in facts:
            told.tell(fact)
        return Scene(told, self._stalls)

    def closed_up(self):
        """The scene without orders and auctions."""
        return Scene(self._told, {unit: self._stalls[unit].closed_up() for unit in self._stalls})


def first_scene(rules):
    """The scene ahead of all steps."""
    return Scene(Told(rules), {unit: Stall(Ladder(unit)) for unit in rules.goods() + rules.contracts()})


def order_entered(scene, words):
    """A step `order`."""
    order = Order.read(" ".join(words))
    stall = scene.stall(order.unit)
    if stall.auction is not None:
        raise BadUnit(order.unit)
    scene.check_free(order.name)
    if stall.pool is None:
        pool = None
        ladder, events = entered(stall.ladder, order)
    else:
        ladder, pool, events = beside(stall.ladder, stall.pool, order)
    facts = [fact for event in events for fact in facts_of(scene.today(), stall, order, event)]
    return scene.with_stall(order.unit, stall.on(ladder, pool)).with_facts(facts), events


def facts_of(day, stall, order, event):
    """The list of the fact that an event of an order tells, if it is a trade."""
    members = {**stall.standing(), order.name: order.member}
    if event[0] == "trade":
        word, buy, sell, price, units = event
        return [("trade", day, members[buy], members[sell], order.unit, price, units)]
    if event[0] == "pool":
        word, name, price, units = event
        parties = (order.member, stall.keeper) if order.side == "buy" else (stall.keeper, order.member)
        return [("trade", day, *parties, order.unit, price, units)]
    return []


def order_dropped(scene, words):
    """A step `drop`."""
    check_many(words, 1)
    unit = scene.unit_of(words[0])
    stall = scene.stall(unit)
    return scene.with_stall(unit, stall.on(stall.ladder.dropped(words[0]), stall.pool)), None


def order_lessened(scene, words):
    """A step `less`."""
    check_many(words, 2)
    unit = scene.unit_of(words[0])
    stall = scene.stall(unit)
    return scene.with_stall(unit, stall.on(stall.ladder.lessened(words[0], number_of(words[1])), stall.pool)), None


def bare_stall(scene, unit):
    """The stall of a unit that has no auction, no pool and no orders."""
    stall = scene.stall(unit)
    if not stall.is_bare():
        raise BadUnit(unit)
    return stall


def auction_begun(scene, words):
    """A step `gather`."""
    check_many(words, 3)
    unit, told, width = words
    stall = bare_stall(scene, unit)
    auction = Auction(unit, number_of(told), number_of(width))
    return scene.with_stall(unit, Stall(stall.ladder, auction=auction)), None


def auction_at(scene, unit):
    """An auction in the state of that of a unit, to be changed."""
    stall = scene.stall(unit)
    if stall.auction is None:
        raise BadUnit(unit)
    return stall.auction.twin()


def order_gathered(scene, words):
    """A step `offer`."""
    check_many(words, 6)
    name, member, side, unit, price, amount = words
    auction = auction_at(scene, unit)
    scene.check_free(name)
    auction.tell(name, member, side, price_of(price), number_of(amount))
    return scene.with_stall(unit, Stall(scene.stall(unit).ladder, auction=auction)), None


def auction_cleared(scene, words):
    """A step `clear`."""
    check_many(words, 1)
    unit = words[0]
    auction = auction_at(scene, unit)
    trades = auction.clear()
    ladder = scene.stall(unit).ladder
    if trades is None:
        return scene.with_stall(unit, Stall(ladder, auction=auction)), None
    facts = [("trade", scene.today(), *trade) for trade in trades]
    return scene.with_stall(unit, Stall(ladder)).with_facts(facts), trades


def pool_set(scene, words):
    """A step `pool`."""
    check_many(words, 5)
    unit, member, money, stock, shares = words
    stall = bare_stall(scene, unit)
    if not is_member(member):
        raise BadName(member)
    pool = Pool(unit, number_of(money), number_of(stock), number_of(shares))
    return scene.with_stall(unit, Stall(stall.ladder, pool, member)), None


STEPS = {
    "order": order_entered, "drop": order_dropped, "less": order_lessened, "gather": auction_begun,
    "offer": order_gathered, "clear": auction_cleared, "pool": pool_set,
}


def behind_line(scene, line):
    """The tuple (scene, answer) behind the step of a line."""
    word, *words = line.split(" ")
    if word in STEPS:
        step = STEPS[word]
        return step(scene, words)
    fact = fact_of(line, scene.today())
    if word == "close":
        scene = scene.closed_up()
    return scene.with_facts([fact]), None
