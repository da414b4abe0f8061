"""Rounds: dues in their queues, and what the owners have."""

from evenmarket.dues import BadDues, BadHoldings, BadQueues, Due, Duplicate, NoDue, NotTogether, TooMany, are_dues
from evenmarket.errors import BadAmount
from evenmarket.greatest import goes_together
from evenmarket.names import is_count, is_member, is_unit, is_whole
from evenmarket.sums import summed

MOST_DUES = 12


class Round:
    """A round never changes; it keeps no holdings of 0 and no queues without dues."""

    def __init__(self, holdings, dues, queues=None):
        if not are_holdings(holdings):
            raise BadHoldings(holdings)
        if not are_dues(dues) or len(dues) > MOST_DUES:
            raise BadDues(dues)
        check_unlike(dues)
        self._holdings = {door: holdings[door] for door in holdings if holdings[door] != 0}
        self._dues = {due.number: due for due in sorted(dues, key=lambda due: due.number)}
        ascending = {door: queue_of(self._dues, door) for due in dues for door in due.doors()}
        if not are_queues(queues, ascending):
            raise BadQueues(queues)
        told = {} if queues is None else queues
        self._queues = {door: list(told.get(door, ascending[door])) for door in ascending}

    def numbers(self):
        """The ascending list of the numbers of the dues."""
        return list(self._dues)

    def due(self, number):
        """The due with a number."""
        if not is_whole(number) or number not in self._dues:
            raise NoDue(number)
        return self._dues[number]

    def doors(self):
        """The ascending list of the different doors of all dues."""
        return sorted(self._queues)

    def queue(self, owner, unit):
        """The numbers of a queue in its order."""
        return list(self._queues.get((owner, unit), []))

    def holds(self, owner, unit):
        """How many of a unit an owner has."""
        return self._holdings.get((owner, unit), 0)

    def owners(self):
        """The ascending list of the owners who have other than 0, or give or take."""
        return sorted(set([owner for owner, unit in self._holdings]
                          + [owner for due in self._all() for owner in due.owners()]))

    def with_due(self, due):
        """The round with one more due, last in its queues."""
        if not isinstance(due, Due):
            raise BadDues(due)
        if due.number in self._dues:
            raise Duplicate(due.number)
        if len(self._dues) >= MOST_DUES:
            raise TooMany(len(self._dues) + 1)
        queues = {door: self.queue(*door) for door in self.doors() + due.doors()}
        for door in due.doors():
            queues[door].append(due.number)
        return Round(self._holdings, self._all() + [due], queues)

    def without(self, number):
        """The round without a due."""
        gone = self.due(number)
        return self._kept(self._holdings, [gone.number])

    def with_more(self, owner, unit, amount):
        """The round in which a member has more of a unit."""
        if not is_count(amount):
            raise BadAmount(amount)
        return self._kept(summed([self._holdings, {(owner, unit): amount}]), [])

    def after(self, numbers):
        """The round behind the handing over of dues that go together."""
        if not goes_together(self, numbers):
            raise NotTogether(numbers)
        legs = [leg for number in numbers for leg in self.due(number).legs]
        given = [{(giver, unit): -amount} for giver, taker, unit, amount in legs]
        taken = [{(taker, unit): amount} for giver, taker, unit, amount in legs]
        return self._kept(summed([self._holdings] + given + taken), numbers)

    def __len__(self):
        return len(self._dues)

    def __eq__(self, other):
        return (isinstance(other, Round) and self._holdings == other._holdings and self._dues == other._dues
                and self._queues == other._queues)

    def _all(self):
        """The list of all dues."""
        return [self._dues[number] for number in self._dues]

    def _kept(self, holdings, gone):
        """The round with other holdings and without the dues of some numbers; what stays keeps its order."""
        dues = [due for due in self._all() if due.number not in gone]
        doors = [door for due in dues for door in due.doors()]
        queues = {door: [number for number in self.queue(*door) if number not in gone] for door in doors}
        return Round(holdings, dues, queues)


def is_door(value):
    """Whether any value is a tuple of a member and a unit."""
    return isinstance(value, tuple) and len(value) == 2 and is_member(value[0]) and is_unit(value[1])


def are_holdings(value):
    """Whether any value is a dict from tuples (owner, unit) to integers."""
    return isinstance(value, dict) and all([is_door(key) and is_whole(value[key]) for key in value])


def are_queues(value, queues):
    """Whether any value is None, or a dict with orders of some of the queues."""
    if value is None:
        return True
    if not isinstance(value, dict):
        return False
    return all([is_door(key) and is_order(value[key], queues.get(key, [])) for key in value])


def is_order(value, numbers):
    """Whether any value is a list of all of some numbers, each once."""
    if not isinstance(value, (list, tuple)) or not all([is_whole(number) for number in value]):
        return False
    return sorted(value) == numbers


def check_unlike(dues):
    """Raise Duplicate with the number of the first due whose number an earlier one has."""
    met = []
    for due in dues:
        if due.number in met:
            raise Duplicate(due.number)
        met.append(due.number)


def queue_of(dues, door):
    """The ascending numbers of the dues that have a door."""
    return [number for number in dues if door in dues[number].doors()]
