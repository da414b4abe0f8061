"""The market: what is told to it, and what was posted by it."""

from evenmarket.facts import NotKnown
from evenmarket.journals import Journal, adjusting
from evenmarket.names import is_count
from evenmarket.run import Run
from evenmarket.told import Told


class Market:
    """A market; only `tell` changes it."""

    def __init__(self, rules):
        self._told = Told(rules)
        self._posted = Journal()

    def tell(self, fact):
        """Tell a fact; its number is returned, None for a fill."""
        number = self._told.tell(fact)
        if fact[0] == "close":
            self._posted = self._posted.with_rows(rows_at_closing(self._posted, self.run().journal(), fact[1]))
        return number

    def rules(self):
        """The rules."""
        return self._told.rules()

    def facts(self):
        """The list of the facts."""
        return self._told.facts()

    def run(self):
        """What follows from the facts."""
        return Run(self._told)

    def known(self, count):
        """The market with the first so many facts alone."""
        if not is_count(count) or count > len(self):
            raise NotKnown(count)
        market = Market(self.rules())
        for fact in self.facts()[:count]:
            market.tell(fact)
        return market

    def open_slips(self):
        """The ascending list of the numbers of the slips that are not filled."""
        return self._told.open_slips()

    def posted(self):
        """The journal of what was posted at the closings, with what was told until then."""
        return self._posted

    def __len__(self):
        return len(self._told)


def rows_at_closing(posted, journal, day):
    """The rows that are posted at the closing of a day: what earlier days became since, and then those of the day."""
    before = Journal([row for row in journal.rows() if row.day < day])
    return adjusting(posted, before, day) + journal.rows(day)
