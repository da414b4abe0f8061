"""Books: all that a run keeps from one day to the next."""

from evenmarket.lots import Lots

FIRST_PRICE = 50


class Books:
    """What has been posted, and what stands; the values of its dicts are exchanged, never changed.

    `entries` has the tuples (day, cause, postings) of the rows, `noted` the things of the closed days. `positions` is
    a dict from members, `dues` one from numbers to tuples (trade, Due), `queues` one from tuples (owner, unit) to lists
    of numbers, `loans` one from numbers to tuples (until, lender, borrower, left), `stores` one from tuples
    (member, good) to Lots, `habits` one from members to the ways in which they part them.
    """

    def __init__(self, rules):
        self.entries = []
        self.noted = {}
        self.prices = {contract: FIRST_PRICE for contract in rules.contracts()}
        self.positions = {}
        self.dues = {}
        self.queues = {}
        self.loans = {}
        self.stores = {}
        self.habits = {}
        self._rules = rules
        self._balances = {}

    def twin(self):
        """Other books in the same state."""
        books = Books(self._rules)
        books.entries = list(self.entries)
        books.noted = {thing: self.noted[thing] for thing in self.noted}
        books.prices = dict(self.prices)
        books.positions = dict(self.positions)
        books.dues = dict(self.dues)
        books.queues = {door: self.queues[door] for door in self.queues}
        books.loans = dict(self.loans)
        books.stores = {place: self.stores[place] for place in self.stores}
        books.habits = dict(self.habits)
        books._balances = {account: self._balances[account] for account in self._balances}
        return books

    def shifts(self):
        """The moves against which positions are covered."""
        return self._rules.moves()

    def post(self, day, cause, changes):
        """Post a row, without changes of 0; one without postings is left out."""
        postings = {account: changes[account] for account in changes if changes[account] != 0}
        if len(postings) == 0:
            return
        self.entries.append((day, cause, postings))
        for account in postings:
            self._balances[account] = self._balances.get(account, 0) + postings[account]

    def has(self, owner, unit, place):
        """The balance of an account."""
        return self._balances.get((owner, unit, place), 0)

    def balances(self):
        """The dict of all balances other than 0."""
        return {account: self._balances[account] for account in self._balances if self._balances[account] != 0}

    def queue(self, door):
        """The list of the numbers in a queue."""
        return list(self.queues.get(door, []))

    def lots(self, member, good):
        """The Lots of a good that came to a member."""
        return self.stores.get((member, good), Lots())
