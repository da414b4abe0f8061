"""The forms of facts and of deeds: which items each kind has."""

from evenmarket.lots import WORDS
from evenmarket.names import is_amount, is_count, is_member, is_price, is_whole

LAST_DAY = 12
MOST_DEEDS = 3

FACTS = {
    "pay": ("day", "member", "stuff", "change"),
    "trade": ("day", "member", "member", "ware", "price", "amount"),
    "price": ("day", "contract", "price"),
    "fund": ("day", "member", "amount"),
    "lend": ("day", "day", "member", "member", "amount"),
    "way": ("day", "member", "way"),
    "queue": ("day", "member", "stuff", "numbers"),
    "slip": ("day", "deeds"),
    "fill": ("number", "index"),
    "close": ("day",),
}
DEEDS = {
    "bust": ("number",),
    "amend": ("number", "price"),
    "pay": ("member", "stuff", "change"),
    "price": ("contract", "price"),
}


def kinds_of_fact(word):
    """The kinds of the items behind a word that facts begin with, or None."""
    return FACTS.get(word)


def kinds_of_deed(word):
    """The kinds of the items behind a word that deeds begin with, or None."""
    return DEEDS.get(word)


def is_fact(rules, value):
    """Whether any value is a fact."""
    return is_worded(value) and has_items(rules, kinds_of_fact(value[0]), value[1:]) and is_sound(value)


def is_deed(rules, value):
    """Whether any value is a deed."""
    return is_worded(value) and has_items(rules, kinds_of_deed(value[0]), value[1:])


def copied(fact):
    """A fact with lists of its own."""
    return tuple([list(item) if is_list(item) else item for item in fact])


def is_worded(value):
    """Whether any value is a tuple that begins with a string."""
    return isinstance(value, tuple) and len(value) > 0 and isinstance(value[0], str)


def has_items(rules, kinds, items):
    """Whether any items are just those of some kinds; None are no kinds."""
    if kinds is None or len(items) != len(kinds):
        return False
    return all([fits(rules, kind, item) for kind, item in zip(kinds, items)])


def is_sound(fact):
    """Whether the items of a fact fit together, each by itself being right."""
    if fact[0] == "trade":
        return fact[2] != fact[3]
    if fact[0] == "lend":
        return fact[1] <= fact[2] and fact[3] != fact[4]
    return True


def fits(rules, kind, value):
    """Whether any value is an item of a kind, by the rules of a market."""
    if kind == "stuff":
        return value == "money" or value in rules.goods()
    if kind == "good":
        return value in rules.goods()
    if kind == "contract":
        return value in rules.contracts()
    if kind == "ware":
        return value in rules.goods() + rules.contracts()
    if kind == "deeds":
        return is_list(value) and 1 <= len(value) <= MOST_DEEDS and all([is_deed(rules, deed) for deed in value])
    return fits_everywhere(kind, value)


def fits_everywhere(kind, value):
    """Whether any value is an item of a kind that is the same in all markets."""
    if kind == "day":
        return is_count(value) and value <= LAST_DAY
    if kind == "member":
        return is_member(value)
    if kind == "price":
        return is_price(value)
    if kind == "amount":
        return is_amount(value)
    if kind == "change":
        return is_whole(value) and value != 0
    if kind == "way":
        return value in WORDS
    if kind == "numbers":
        return is_list(value) and all([is_count(number) for number in value]) and len(set(value)) == len(value)
    # A number, or the index of a deed.
    return is_count(value) or kind == "index" and value is None


def is_list(value):
    """Whether any value can stand where a list is expected."""
    return isinstance(value, (list, tuple))
