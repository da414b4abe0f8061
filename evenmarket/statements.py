"""Statements by themselves, without the journal that told them."""

from evenmarket.errors import BadDay, BadOwner, BadStatement, NotCarried, NotWhole, Unbalanced
from evenmarket.names import is_cause, is_count, is_day, is_held_at, is_owner, is_whole
from evenmarket.rows import Row
from evenmarket.sums import summed


def is_statement(value):
    """Whether any value has the form of a statement."""
    return has_parts(value) and has_rising_lines(value) and is_carried(value)


def joined_statements(one, other):
    """The statement of two, one behind the other."""
    for value in (one, other):
        if not is_statement(value):
            raise BadStatement(value)
    if other[0] != one[0]:
        raise BadOwner(other[0])
    if other[1] != one[2] + 1:
        raise BadDay(other[1])
    check_carried(one[5], other[3])
    return (one[0], one[1], other[2], copied(one[3]), lines_copied(one) + lines_copied(other), copied(other[5]))


def rows_of_statements(statements):
    """The rows that statements of different owners, of the same days, tell together."""
    check_fitting(statements)
    lines = lines_by_spot(statements)
    rows = []
    met = {}
    for day, number in sorted(lines):
        # The numbers of a day ascend here, so the first gap is just behind the rows met so far.
        if number != met.get(day, 0):
            raise NotWhole((day, met.get(day, 0)))
        met[day] = number + 1
        rows.append(row_of_lines((day, number), lines[(day, number)]))
    return rows


def has_parts(value):
    """Whether any value has the parts of a statement, each of its kind."""
    if not isinstance(value, tuple) or len(value) != 6:
        return False
    owner, first, last, opening, lines, closing = value
    if not is_owner(owner) or not is_day(first) or not is_whole(last) or last < first:
        return False
    if not is_holding(opening) or not is_holding(closing) or not isinstance(lines, (list, tuple)):
        return False
    return all([is_line(line) for line in lines])


def is_holding(value):
    """Whether any value is a dict from tuples (unit, place) to integers other than 0."""
    if not isinstance(value, dict):
        return False
    return all([is_key(key) and is_whole(value[key]) and value[key] != 0 for key in value])


def is_key(value):
    """Whether any value is a tuple (unit, place)."""
    return isinstance(value, tuple) and len(value) == 2 and is_held_at(value[0], value[1])


def is_line(value):
    """Whether any value has the parts of a line, each of its kind."""
    if not isinstance(value, tuple) or len(value) != 4:
        return False
    day, number, cause, changes = value
    return is_day(day) and is_count(number) and is_cause(cause) and is_holding(changes) and len(changes) > 0


def has_rising_lines(value):
    """Whether the lines of what has the parts of a statement lie in its days and rise."""
    first, last, lines = value[1], value[2], value[4]
    spots = [line[:2] for line in lines]
    return (all([first <= day <= last for day, number in spots])
            and all([spot < after for spot, after in zip(spots, spots[1:])]))


def is_carried(value):
    """Whether the closing of what has the parts of a statement is the opening with all changes."""
    opening, lines, closing = value[3], value[4], value[5]
    return summed([opening] + [line[3] for line in lines]) == closing


def check_carried(closing, opening):
    """Raise NotCarried for the first key that has not the same balance in both."""
    for key in sorted([*closing, *opening]):
        if closing.get(key, 0) != opening.get(key, 0):
            raise NotCarried(key)


def copied(holding):
    """A new dict of the same integers."""
    return {key: holding[key] for key in holding}


def lines_copied(statement):
    """A new list of the lines of a statement, with new dicts."""
    return [(day, number, cause, copied(changes)) for day, number, cause, changes in statement[4]]


def check_fitting(statements):
    """Raise what is wrong with the first item that is no statement beside those before it."""
    owners = []
    for statement in statements:
        if not is_statement(statement):
            raise BadStatement(statement)
        for at in (1, 2):
            if statement[at] != statements[0][at]:
                raise BadDay(statement[at])
        if statement[0] in owners:
            raise BadOwner(statement[0])
        owners.append(statement[0])


def lines_by_spot(statements):
    """The dict from tuples (day, number) to lists of tuples (owner, cause, changes)."""
    lines = {}
    for statement in statements:
        for day, number, cause, changes in statement[4]:
            lines.setdefault((day, number), []).append((statement[0], cause, changes))
    return lines


def row_of_lines(spot, lines):
    """The row of a day and a number that lines of different owners tell together."""
    cause = lines[0][1]
    if any([line[1] != cause for line in lines]):
        raise NotWhole(spot)
    postings = {(owner, *key): changes[key] for owner, same, changes in lines for key in changes}
    try:
        return Row(spot[0], cause, postings)
    except Unbalanced:
        raise NotWhole(spot) from None
