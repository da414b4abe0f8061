"""Sight: what a member sees of the facts and of the rows, and what they are told."""

from evenmarket.errors import MarketError
from evenmarket.facts import BadQuestion
from evenmarket.names import is_member
from evenmarket.questions import is_question
from evenmarket.told import told_of

# Where the names of the members stand who see the whole fact.
PARTIES = {"pay": (2,), "way": (2,), "fund": (2,), "queue": (2,), "lend": (3, 4)}


class BadViewer(MarketError):
    """A value is neither a member nor the house."""

    def __init__(self, given):
        self.given = given


class Hidden(MarketError):
    """The viewer may not ask this question."""

    def __init__(self, given):
        self.given = given


def seen(rules, facts, viewer):
    """What a viewer sees of each fact, in order."""
    told_facts = told_of(rules, facts).facts()
    check_viewer(viewer)
    return [fact if viewer == "house" else seen_by(fact, viewer) for fact in told_facts]


def seen_rows(journal, viewer):
    """The tuples (day, cause, changes) of the rows that a viewer sees."""
    check_viewer(viewer)
    return [(row.day, row.cause, changes_for(row, viewer)) for row in journal.rows()
            if viewer == "house" or viewer in row.owners()]


def told(market, viewer, question):
    """The answer to a question by what has been posted."""
    check_viewer(viewer)
    known = told_of(market.rules(), market.facts())
    if not is_question(known, question):
        raise BadQuestion(question)
    if not may_ask(known, viewer, question):
        raise Hidden(question)
    word, day = question[0], question[-1]
    if word == "price":
        return market.run().things()[question]
    if word == "balance":
        balance = market.posted().balance(question[1], day)
        return balance if balance != 0 else None
    if word == "settled":
        return moved_by(market.posted(), ("settle", day, question[1]))
    return moved_by(market.posted(), ("debt", day, question[1], question[2]))


def check_viewer(viewer):
    """Raise BadViewer for any value that is neither a member nor the house."""
    if viewer != "house" and not is_member(viewer):
        raise BadViewer(viewer)


def seen_by(fact, viewer):
    """What a member sees of a fact."""
    if fact[0] in PARTIES:
        return fact if viewer in [fact[at] for at in PARTIES[fact[0]]] else ("hidden", fact[1])
    if fact[0] == "trade":
        parties = [name if name == viewer else "" for name in fact[2:4]]
        return (*fact[:2], *parties, *fact[4:])
    if fact[0] == "slip":
        return (*fact[:2], [deed if deed[0] != "pay" or deed[1] == viewer else ("hidden",) for deed in fact[2]])
    return fact


def changes_for(row, viewer):
    """What a viewer sees of the postings of a row."""
    postings = row.postings()
    if viewer == "house":
        return postings
    return {account[1:]: postings[account] for account in postings if account[0] == viewer}


def may_ask(known, viewer, question):
    """Whether a viewer may ask a question."""
    word, item = question[:2]
    if word not in ("price", "balance", "settled", "paid"):
        return False
    if viewer == "house" or word == "price":
        return True
    if word == "balance":
        return item[0] == viewer
    if word == "settled":
        return viewer in known.fact(item)[2:4]
    return viewer in question[1:3]


def moved_by(journal, cause):
    """The money that the row with a cause moves, or None if there is no such row."""
    rows = journal.caused(cause)
    if len(rows) == 0:
        return None
    postings = rows[0].postings()
    return sum([postings[account] for account in postings if account[1] == "money" and postings[account] > 0])
