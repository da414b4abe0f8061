"""What is final: which answers can still change, and by which fills."""

from evenmarket.books import Books
from evenmarket.errors import MarketError
from evenmarket.facts import BadFact, BadQuestion, ManySlips
from evenmarket.forms import is_fact
from evenmarket.questions import is_question
from evenmarket.run import Run, close_days
from evenmarket.told import told_of

MOST_SLIPS = 4


def reach(rules, facts, fill):
    """The ascending list of the things that a fill makes others."""
    return reached(told_of(rules, facts), fill)


def chain(rules, facts, fill, thing):
    """A reached thing for each day from the first one that is reached to that of a reached thing; or None."""
    told = told_of(rules, facts)
    things = reached(told, fill)
    check_question(told, thing)
    if thing not in things:
        return None
    firsts = {}
    for one in things:
        firsts.setdefault(one[-1], one)
    return [firsts[day] for day in sorted(firsts) if day < thing[-1]] + [thing]


def answer(rules, facts, question):
    """The value of a thing if open slips get nothing, or None."""
    told = told_of(rules, facts)
    check_question(told, question)
    return Run(told).things().get(question)


def fillings(rules, facts):
    """All fillings, those with fewer indexes first."""
    for filling in all_fillings(told_of(rules, facts)):
        yield filling


def final(rules, facts, question):
    """None if all fillings have the same answer, otherwise the first one with another one than without indexes."""
    rows = answered(told_of(rules, facts), question)
    others = [filling for filling, value in rows if value != rows[0][1]]
    return others[0] if len(others) > 0 else None


def answers(rules, facts, question):
    """The list of the different answers, by the first fillings that have them."""
    found = []
    for filling, value in answered(told_of(rules, facts), question):
        if value not in found:
            found.append(value)
    return found


def matters(rules, facts, question):
    """The ascending list of the open slips on which the answer hangs."""
    told = told_of(rules, facts)
    rows = answered(told, question)
    return [slip for slip in told.open_slips() if hangs_on(rows, slip)]


def change_places(rules, facts, first, second):
    """Whether two facts may be told in both orders with the same things."""
    told = told_of(rules, facts)
    told.check(first)
    told.check(second)
    one, other = told.twin(), told.twin()
    try:
        one.tell(first)
        one.tell(second)
        other.tell(second)
        other.tell(first)
    except MarketError:
        return False
    return Run(one).things() == Run(other).things()


def reached(told, fill):
    """What `reach` tells."""
    if not is_fact(told.rules(), fill) or fill[0] != "fill":
        raise BadFact(fill)
    behind = told.twin()
    behind.tell(fill)
    one, other = Run(told).things(), Run(behind).things()
    gone = [thing for thing in one if one[thing] != other.get(thing)]
    return sorted(gone + [thing for thing in other if thing not in one])


def check_question(told, question):
    """Raise BadQuestion for any value that is no question."""
    if not is_question(told, question):
        raise BadQuestion(question)


def all_fillings(told):
    """The list of all fillings, those with fewer indexes first."""
    slips = told.open_slips()
    if len(slips) > MOST_SLIPS:
        raise ManySlips(len(slips))
    rows = [[]]
    for slip in slips:
        choices = [None] + list(range(len(told.fact(slip)[2])))
        rows = [[*row, choice] for row in rows for choice in choices]
    # Choices came in their order, so of equally many indexes the lists are in order.
    return [dict(zip(slips, row)) for row in sorted(rows, key=indexes_in)]


def indexes_in(row):
    """How many choices are indexes."""
    return len([choice for choice in row if choice is not None])


def answered(told, question):
    """The list of tuples (filling, answer) for all fillings."""
    check_question(told, question)
    rows = all_fillings(told)
    behind = question[-1] + 1
    # What comes before the day of the first open slip is the same for all fillings.
    first = min([behind] + [told.fact(slip)[1] for slip in told.open_slips()])
    before = Books(told.rules())
    close_days(before, told.holding({}), 0, first)
    return [(filling, noted_if(told, before, filling, first, behind).get(question)) for filling in rows]


def noted_if(told, before, filling, first, behind):
    """The things of a number of days if open slips are filled so, found from the books before a first day on."""
    books = before.twin()
    close_days(books, told.holding(filling), first, behind)
    return books.noted


def hangs_on(rows, slip):
    """Whether two fillings that differ at a slip alone have different answers."""
    first = {}
    for filling, value in rows:
        others = tuple([filling[one] for one in filling if one != slip])
        if others in first and first[others] != value:
            return True
        first.setdefault(others, value)
    return False
