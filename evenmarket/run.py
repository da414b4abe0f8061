"""The run: what follows from facts, day by day."""

from evenmarket.books import Books
from evenmarket.forms import LAST_DAY
from evenmarket.journals import Journal
from evenmarket.rows import Row
from evenmarket.steps import close_day, post_facts
from evenmarket.told import told_of


class Run:
    """What follows from what was told; it never changes."""

    def __init__(self, told):
        books = Books(told.rules())
        facts = told.holding({})
        close_days(books, facts, 0, told.days())
        self._days = told.days()
        self._things = {thing: books.noted[thing] for thing in sorted(books.noted)}
        for day in range(told.days(), LAST_DAY + 1):
            post_facts(books, of_day(facts, day))
        self._entries = books.entries

    def days(self):
        """The number of the closed days."""
        return self._days

    def journal(self):
        """The journal of all rows."""
        return Journal([Row(day, cause, postings) for day, cause, postings in self._entries])

    def things(self):
        """The dict of the things of all closed days, by ascending keys."""
        return {thing: self._things[thing] for thing in self._things}


def run(rules, facts):
    """What follows from facts."""
    return Run(told_of(rules, facts))


def close_days(books, facts, first, days):
    """Do all of the days from a first one on, up to a number of days, with the facts that hold."""
    for day in range(first, days):
        post_facts(books, of_day(facts, day))
        close_day(books, day, of_day(facts, day))


def of_day(facts, day):
    """Those of the tuples (number, fact) that are of a day."""
    return [(number, fact) for number, fact in facts if fact[1] == day]
