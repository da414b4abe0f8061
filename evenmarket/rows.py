"""Rows: postings of a day that sum to 0 in each unit."""

from evenmarket.errors import BadAccount, BadAmount, BadCause, BadDay, BadPostings, BadText, MarketError, Unbalanced
from evenmarket.names import is_account, is_amount, is_cause, is_day, is_whole
from evenmarket.sums import opposite, summed
from evenmarket.texts import is_numeral, is_signed


class Row:
    """A row never changes; its postings are kept by ascending accounts."""

    def __init__(self, day, cause, postings):
        if not is_day(day):
            raise BadDay(day)
        if not is_cause(cause):
            raise BadCause(cause)
        if not are_postings(postings):
            raise BadPostings(postings)
        off = sums_of_units(postings)
        if len(off) > 0:
            raise Unbalanced(min(off), off[min(off)])
        self.day = day
        self.cause = cause
        self._postings = {account: postings[account] for account in sorted(postings)}

    def postings(self):
        """The dict from the accounts, ascending, to their integers."""
        return {account: self._postings[account] for account in self._postings}

    def posting(self, account):
        """The integer of an account, 0 if it has none."""
        if not is_account(account):
            raise BadAccount(account)
        return self._postings.get(account, 0)

    def owners(self):
        """The ascending list of the owners of the accounts."""
        return sorted(set([owner for owner, unit, place in self._postings]))

    def units(self):
        """The ascending list of the units of the accounts."""
        return sorted(set([unit for owner, unit, place in self._postings]))

    def turned(self, day, cause):
        """The row with the opposite integers."""
        return Row(day, cause, opposite(self._postings))

    def moved(self, day, cause):
        """The row with the same integers."""
        return Row(day, cause, self._postings)

    def __eq__(self, other):
        return (isinstance(other, Row) and self.day == other.day and self.cause == other.cause
                and self._postings == other._postings)

    def __str__(self):
        return ", ".join([words_of([self.day, *self.cause])]
                         + [words_of([*account, self._postings[account]]) for account in self._postings])

    @classmethod
    def read(cls, text):
        """The row with a text."""
        if not isinstance(text, str):
            raise BadText()
        head, *parts = text.split(", ")
        day, *cause = [item_of(word) for word in head.split(" ")]
        try:
            row = cls(day, tuple(cause), postings_of(parts))
        except MarketError:
            raise BadText() from None
        # A text that lists accounts in another order, or twice, makes a row with another text.
        if str(row) != text:
            raise BadText()
        return row


def transfer(day, cause, giver, taker, amount):
    """The row by which an account hands an amount to another one."""
    for account in (giver, taker):
        if not is_account(account):
            raise BadAccount(account)
    if giver == taker or giver[1] != taker[1]:
        raise BadAccount(taker)
    if not is_amount(amount):
        raise BadAmount(amount)
    return Row(day, cause, {giver: -amount, taker: amount})


def are_postings(value):
    """Whether any value is a dict, not empty, from accounts to integers other than 0."""
    if not isinstance(value, dict) or len(value) == 0:
        return False
    return all([is_account(key) and is_whole(value[key]) and value[key] != 0 for key in value])


def sums_of_units(postings):
    """The sums of the integers of units, as far as they are not 0, by ascending units."""
    return summed([{account[1]: postings[account]} for account in postings])


def words_of(items):
    """Items separated by single spaces."""
    return " ".join([str(item) for item in items])


def item_of(word):
    """What a word of a day and a cause stands for."""
    return int(word) if is_numeral(word) else word


def postings_of(parts):
    """The postings that parts of a text tell; it raises BadText if one is no posting."""
    postings = {}
    for part in parts:
        words = part.split(" ")
        if len(words) != 4 or not is_signed(words[3]):
            raise BadText()
        postings[tuple(words[:3])] = int(words[3])
    return postings
