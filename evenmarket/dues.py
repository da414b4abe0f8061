"""Dues: what members owe to hand over, each due as a whole; and the errors of the whole settlement."""

from evenmarket.errors import BadText, MarketError
from evenmarket.names import is_amount, is_count, is_member, is_unit
from evenmarket.sums import summed
from evenmarket.texts import is_numeral

MOST_LEGS = 4


class BadNumber(MarketError):
    """A value is no number of a due."""

    def __init__(self, given):
        self.given = given


class BadLegs(MarketError):
    """A value is no list of legs that make a due."""

    def __init__(self, given):
        self.given = given


class BadDues(MarketError):
    """A value is no list of dues that fit here, or no due."""

    def __init__(self, given):
        self.given = given


class BadHoldings(MarketError):
    """A value is no dict of what members have."""

    def __init__(self, given):
        self.given = given


class BadQueues(MarketError):
    """A value does not tell orders of the queues."""

    def __init__(self, given):
        self.given = given


class BadOwners(MarketError):
    """A value is no list of different members."""

    def __init__(self, given):
        self.given = given


class NoDue(MarketError):
    """A value is not the number of a due that is there."""

    def __init__(self, given):
        self.given = given


class Duplicate(MarketError):
    """A due with this number is there."""

    def __init__(self, given):
        self.given = given


class NotTogether(MarketError):
    """A value is no list of dues that go together."""

    def __init__(self, given):
        self.given = given


class Settles(MarketError):
    """The due with this number is in the greatest set."""

    def __init__(self, given):
        self.given = given


class TooMany(MarketError):
    """There would be so many dues."""

    def __init__(self, count):
        self.count = count


class Due:
    """A due never changes."""

    def __init__(self, number, legs):
        if not is_count(number):
            raise BadNumber(number)
        if not are_legs(legs):
            raise BadLegs(legs)
        self.number = number
        self.legs = tuple(sorted(legs))

    def gives(self, owner, unit):
        """How many of a unit an owner gives."""
        return sum([leg[3] for leg in self.legs if leg[0] == owner and leg[2] == unit])

    def takes(self, owner, unit):
        """How many of a unit an owner gets."""
        return sum([leg[3] for leg in self.legs if leg[1] == owner and leg[2] == unit])

    def owners(self):
        """The ascending list of all givers and takers."""
        return sorted(set([owner for leg in self.legs for owner in leg[:2]]))

    def doors(self):
        """The ascending list of the different tuples (giver, unit)."""
        return sorted(set([(leg[0], leg[2]) for leg in self.legs]))

    def text(self):
        """The number and the legs."""
        legs = [" ".join([giver, taker, unit, str(amount)]) for giver, taker, unit, amount in self.legs]
        return f"{self.number}: " + ", ".join(legs)

    @classmethod
    def read(cls, text):
        """The due with a text."""
        parts = text.split(": ") if isinstance(text, str) else []
        if len(parts) != 2 or not is_numeral(parts[0]):
            raise BadText()
        try:
            due = cls(int(parts[0]), [leg_of(words) for words in parts[1].split(", ")])
        except BadLegs:
            raise BadText() from None
        # Legs in another order make a due with another text.
        if due.text() != text:
            raise BadText()
        return due

    def __eq__(self, other):
        return isinstance(other, Due) and self.number == other.number and self.legs == other.legs


def due_of(number, trade):
    """The due by which the goods of a trade and the money for them are handed over."""
    buyer, seller, unit, price, amount = trade
    return Due(number, [(seller, buyer, unit, amount), (buyer, seller, "money", price * amount)])


def changes_of(due):
    """The dict from tuples (owner, unit) to what the owners get by a due, below 0 for what they give."""
    parts = [part for giver, taker, unit, amount in due.legs
             for part in ({(giver, unit): -amount}, {(taker, unit): amount})]
    return summed(parts)


def netted(number, dues):
    """The due of what is left of all that two owners hand over to one another, None if nothing is."""
    if not is_count(number):
        raise BadNumber(number)
    if not are_between_two(dues):
        raise BadDues(dues)
    one, other = dues[0].owners()
    legs = []
    for unit in sorted(set([leg[2] for due in dues for leg in due.legs])):
        more = sum([due.gives(one, unit) - due.takes(one, unit) for due in dues])
        if more != 0:
            legs.append((one, other, unit, more) if more > 0 else (other, one, unit, -more))
    return Due(number, legs) if len(legs) > 0 else None


def is_leg(value):
    """Whether any value is a leg."""
    if not isinstance(value, tuple) or len(value) != 4 or not is_member(value[0]) or not is_member(value[1]):
        return False
    return value[0] != value[1] and is_unit(value[2]) and is_amount(value[3])


def are_legs(value):
    """Whether any value is a list of legs that make a due."""
    if not isinstance(value, (list, tuple)) or not 1 <= len(value) <= MOST_LEGS:
        return False
    if not all([is_leg(leg) for leg in value]) or len(set([leg[:3] for leg in value])) < len(value):
        return False
    given = [(leg[0], leg[2]) for leg in value]
    return not any([(leg[1], leg[2]) in given for leg in value])


def are_dues(value):
    """Whether any value is a list of dues."""
    return isinstance(value, (list, tuple)) and all([isinstance(due, Due) for due in value])


def are_between_two(value):
    """Whether any value is a list of one or more dues between the same two owners."""
    return are_dues(value) and len(set([owner for due in value for owner in due.owners()])) == 2


def leg_of(words):
    """The leg that words tell, None if they tell none."""
    parts = words.split(" ")
    if len(parts) != 4 or not is_numeral(parts[3]):
        return None
    return (parts[0], parts[1], parts[2], int(parts[3]))
