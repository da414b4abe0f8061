"""Journals: lists of rows, and the balances that come of them."""

from evenmarket.errors import BadAccount, BadDay, BadLine, BadOwner, BadRow, BadText, BadUnit
from evenmarket.names import is_account, is_day, is_owner, is_unit, is_whole
from evenmarket.rows import Row
from evenmarket.sums import opposite, summed


class Journal:
    """A journal never changes; its rows are kept by days."""

    def __init__(self, rows=()):
        self._rows = by_days(rows)

    def rows(self, day=None):
        """The list of the rows, or of those of a day."""
        check_day(day)
        return [row for row in self._rows if day is None or row.day == day]

    def caused(self, cause):
        """The list of the rows with a cause."""
        return [row for row in self._rows if row.cause == cause]

    def with_rows(self, rows):
        """The journal that has more rows, each behind those of its day."""
        return Journal([*self._rows, *rows])

    def turned(self):
        """The journal whose rows have the opposite integers."""
        return Journal([row.turned(row.day, row.cause) for row in self._rows])

    def balance(self, account, day=None):
        """The balance of an account in all, or up to a day."""
        if not is_account(account):
            raise BadAccount(account)
        check_day(day)
        return sum([row.posting(account) for row in rows_until(self._rows, day)])

    def total(self, unit, *, owners=None, places=None, day=None):
        """The sum of the balances of a unit, of some owners and places alone if these are told."""
        if not is_unit(unit):
            raise BadUnit(unit)
        cut = self.cut(day)
        return sum([cut[account] for account in cut if account[1] == unit
                    and (owners is None or account[0] in owners) and (places is None or account[2] in places)])

    def cut(self, day=None):
        """The dict from the accounts, ascending, to their balances other than 0."""
        check_day(day)
        return summed([row.postings() for row in rows_until(self._rows, day)])

    def owners(self):
        """The ascending list of the owners of the rows."""
        return sorted(set([owner for row in self._rows for owner in row.owners()]))

    def units(self):
        """The ascending list of the units of the rows."""
        return sorted(set([unit for row in self._rows for unit in row.units()]))

    def days(self):
        """The ascending list of the days of the rows."""
        return sorted(set([row.day for row in self._rows]))

    def statement(self, owner, first, last):
        """What happens to an owner from a first day to a last one."""
        if not is_owner(owner):
            raise BadOwner(owner)
        if not is_day(first):
            raise BadDay(first)
        if not is_whole(last) or last < first:
            raise BadDay(last)
        before = [changes_of(row, owner) for row in self._rows if row.day < first]
        lines = [(row.day, number, row.cause, changes_of(row, owner)) for number, row in with_numbers(self._rows)
                 if first <= row.day <= last and owner in row.owners()]
        changes = [line[3] for line in lines]
        return (owner, first, last, summed(before), lines, summed(before + changes))

    def text(self):
        """The texts of the rows, separated by line feeds."""
        return "\n".join([str(row) for row in self._rows])

    @classmethod
    def read(cls, text):
        """The journal with a text."""
        return cls(rows_of_text(text))

    def __eq__(self, other):
        return isinstance(other, Journal) and self._rows == other._rows

    def __len__(self):
        return len(self._rows)


def differences(one, other, day=None):
    """What the balances of another journal are above those of one, as far as this is not 0."""
    return summed([other.cut(day), opposite(one.cut(day))])


def adjusting(one, other, day):
    """The rows that give one journal the cut of another one at a day."""
    if not is_day(day):
        raise BadDay(day)
    off = differences(one, other, day)
    units = sorted(set([unit for owner, unit, place in off]))
    return [Row(day, ("adjust", day, unit), {account: off[account] for account in off if account[1] == unit})
            for unit in units]


def by_days(rows):
    """The rows in a new list by days, those of one day in their order; each item must be a row."""
    for row in rows:
        if not isinstance(row, Row):
            raise BadRow(row)
    return sorted(rows, key=lambda row: row.day)


def check_day(day):
    """Raise BadDay for any value that is neither a day nor None."""
    if day is not None and not is_day(day):
        raise BadDay(day)


def rows_until(rows, day):
    """The rows up to a day, this one included, or all for None."""
    return [row for row in rows if day is None or row.day <= day]


def changes_of(row, owner):
    """The dict from tuples (unit, place) to the integers that an owner has in a row."""
    postings = row.postings()
    return {account[1:]: postings[account] for account in postings if account[0] == owner}


def with_numbers(rows):
    """Each row of a journal behind its number among those of its day."""
    met = {}
    numbered = []
    for row in rows:
        numbered.append((met.get(row.day, 0), row))
        met[row.day] = met.get(row.day, 0) + 1
    return numbered


def rows_of_text(text):
    """The rows that the lines of a text tell."""
    rows = []
    lines = [] if text == "" else text.split("\n")
    for number, line in enumerate(lines, start=1):
        try:
            row = Row.read(line)
        except BadText:
            raise BadLine(number) from None
        if len(rows) > 0 and row.day < rows[-1].day:
            raise BadLine(number)
        rows.append(row)
    return rows
