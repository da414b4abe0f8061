"""Shares: what debtors pay of their debts when some of them have too little."""

from evenmarket.errors import BadAmount, BadName, BadRow, MarketError
from evenmarket.names import is_amount, is_count, is_member
from evenmarket.sums import opposite, summed


class BadDebt(MarketError):
    """A key of debts is no tuple of two different members."""

    def __init__(self, given):
        self.given = given


class NoDebtor(MarketError):
    """A value is no debtor."""

    def __init__(self, given):
        self.given = given


def row_of(debts, money):
    """The greatest fair row, by ascending names."""
    check_debts(debts, money)
    return greatest_row(debts, money)


def paying(debts, money):
    """The parts that are paid in the greatest fair row, by ascending keys of the debts."""
    check_debts(debts, money)
    return parts_of(debts, greatest_row(debts, money))


def round_after(debts, money, row):
    """The row in which each debtor pays as much as a given row allows."""
    check_debts(debts, money)
    if not is_row(debts, row):
        raise BadRow(row)
    return next_row(debts, money, row)


def is_fair(debts, money, value):
    """Whether any value is a fair row."""
    check_debts(debts, money)
    return is_row(debts, value) and next_row(debts, money, value) == value


def short(debts, money):
    """The ascending list of the debtors who do not pay all."""
    check_debts(debts, money)
    return short_of(debts, money)


def brought_down(debts, money, member):
    """The ascending list of the other debtors who are short because of a debtor."""
    check_debts(debts, money)
    check_debtor(debts, member)
    helped = short_of(debts, helped_by_all(debts, money, member))
    return [name for name in short_of(debts, money) if name != member and name not in helped]


def lacking(debts, money, member):
    """The least money that a debtor must have more to pay all."""
    check_debts(debts, money)
    check_debtor(debts, member)
    # Who pays all makes the others pay the same, with just enough money or with more of it.
    row = greatest_row(debts, helped_by_all(debts, money, member))
    return max(0, owed(debts)[member] - means(debts, money, row).get(member, 0))


def after_paying(debts, money):
    """The tuple of the debts that are left and of the money of all members then, both ascending."""
    check_debts(debts, money)
    parts = parts_of(debts, greatest_row(debts, money))
    got = means(debts, money, greatest_row(debts, money))
    given = summed([{debtor: parts[(debtor, creditor)]} for debtor, creditor in parts])
    members = sorted(set([name for key in debts for name in key] + list(money)))
    return (summed([debts, opposite(parts)]), {name: got.get(name, 0) - given.get(name, 0) for name in members})


def check_debts(debts, money):
    """Raise what is wrong with debts, or with money."""
    for key in sorted(debts):
        if not is_member(key[0]) or not is_member(key[1]) or key[0] == key[1]:
            raise BadDebt(key)
    for key in sorted(debts):
        if not is_amount(debts[key]):
            raise BadAmount(debts[key])
    for name in sorted(money):
        if not is_member(name):
            raise BadName(name)
    for name in sorted(money):
        if not is_count(money[name]):
            raise BadAmount(money[name])


def check_debtor(debts, member):
    """Raise NoDebtor for any value that is no debtor."""
    if member not in list(owed(debts)):
        raise NoDebtor(member)


def owed(debts):
    """All that each debtor owes, by ascending names."""
    return summed([{debtor: debts[(debtor, creditor)]} for debtor, creditor in debts])


def is_row(debts, value):
    """Whether any value is a row of payments."""
    most = owed(debts)
    if not isinstance(value, dict) or len(value) != len(most):
        return False
    return all([name in value and is_count(value[name]) and value[name] <= most[name] for name in most])


def parts_of(debts, row):
    """The parts of a row of payments that creditors get, by ascending keys of the debts."""
    most = owed(debts)
    return {key: row[key[0]] * debts[key] // most[key[0]] for key in sorted(debts)}


def means(debts, money, row):
    """The money that members have together with the parts that they get, as far as it is not 0."""
    parts = parts_of(debts, row)
    return summed([money] + [{creditor: parts[(debtor, creditor)]} for debtor, creditor in parts])


def next_row(debts, money, row):
    """The row in which each debtor pays as much as a row of payments allows."""
    most = owed(debts)
    has = means(debts, money, row)
    return {name: min(most[name], has.get(name, 0)) for name in most}


def greatest_row(debts, money):
    """The greatest fair row, all being right."""
    row = owed(debts)
    lower = next_row(debts, money, row)
    while lower != row:
        row = lower
        lower = next_row(debts, money, row)
    return row


def short_of(debts, money):
    """The debtors who do not pay all in the greatest fair row, all being right."""
    row = greatest_row(debts, money)
    most = owed(debts)
    return [name for name in row if row[name] < most[name]]


def helped_by_all(debts, money, member):
    """The money if a debtor has as much more as the debtor owes."""
    return summed([money, {member: owed(debts)[member]}])
