"""Questions: which things one can ask for."""

from evenmarket.forms import fits, is_worded
from evenmarket.names import is_account, is_count

QUESTIONS = {
    "price": ("contract",),
    "position": ("member",),
    "called": ("member",),
    "closing": ("member",),
    "balance": ("account",),
    "standing": ("sale",),
    "settled": ("sale",),
    "queue": ("member", "stuff"),
    "owed": ("loan",),
    "paid": ("member", "member"),
    "lots": ("member", "good"),
}


def is_question(told, value):
    """Whether any value is a question about what was told."""
    kinds = QUESTIONS.get(value[0]) if is_worded(value) else None
    if kinds is None or len(value) != len(kinds) + 2:
        return False
    if not is_count(value[-1]) or value[-1] >= told.days():
        return False
    if value[0] == "paid" and value[1] == value[2]:
        return False
    return all([can_be_asked(told, kind, item) for kind, item in zip(kinds, value[1:])])


def can_be_asked(told, kind, value):
    """Whether any value is an item of a kind."""
    rules = told.rules()
    if kind == "account":
        return is_account(value) and fits(rules, "stuff", value[1])
    if kind == "sale":
        return is_count(value) and told.has("trade", value) and fits(rules, "good", told.fact(value)[4])
    if kind == "loan":
        return is_count(value) and told.has("lend", value)
    return fits(rules, kind, value)
