"""Stalls: how each unit of a console is traded."""

from evenmarket.ladders import Ladder
from evenmarket.orders import SIDES


class Stall:
    """A ladder, or a ladder beside a pool for which a keeper trades, or an auction; it never changes."""

    def __init__(self, ladder, pool=None, keeper=None, auction=None):
        self.ladder = ladder
        self.pool = pool
        self.keeper = keeper
        self.auction = auction

    def standing(self):
        """The dict from the names of the orders that stand on the ladder to their members."""
        return {name: self.ladder.order(name).member for side in SIDES for name in self.ladder.names(side)}

    def gathered(self):
        """The list of the names of the orders that are gathered."""
        return [] if self.auction is None else [bid[0] for bid in self.auction.orders()]

    def is_bare(self):
        """Whether there is no auction, no pool and no order."""
        return self.auction is None and self.pool is None and len(self.ladder) == 0

    def shown(self):
        """What everybody sees."""
        if self.auction is not None:
            return ("auction", *self.auction.shown())
        both_sides = [self.ladder.shown(side) for side in SIDES]
        if self.pool is not None:
            return ("pool", *both_sides, self.pool.bid(), self.pool.ask())
        return ("ladder", *both_sides)

    def on(self, ladder, pool):
        """The stall with another ladder, and another pool of the same keeper."""
        return Stall(ladder, pool, self.keeper)

    def closed_up(self):
        """The stall without orders and without an auction; a pool stays."""
        return self.on(Ladder(self.ladder.unit), self.pool)
