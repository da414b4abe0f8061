"""Names, accounts, causes, and the plain values that many points speak of."""

RESERVED = ("house", "outside", "money")


def is_name(value):
    """Whether any value is 1 to 8 letters from a to z."""
    return isinstance(value, str) and 1 <= len(value) <= 8 and all(["a" <= sign <= "z" for sign in value])


def is_member(value):
    """Whether any value is a name that is not reserved."""
    return is_name(value) and value not in RESERVED


def is_good(value):
    """Whether any value can be the name of a good or a contract."""
    return is_member(value)


def is_unit(value):
    """Whether any value is money or can be the name of a good."""
    return value == "money" or is_good(value)


def is_owner(value):
    """Whether any value is a member, the house or outside."""
    return is_name(value) and value != "money"


def is_held_at(unit, place):
    """Whether any two values are a unit and a place where it can be held."""
    return is_unit(unit) and (place == "free" or unit == "money" and place in ("cover", "fund"))


def is_account(value):
    """Whether any value is an account, of any good."""
    return isinstance(value, tuple) and len(value) == 3 and is_owner(value[0]) and is_held_at(value[1], value[2])


def is_cause(value):
    """Whether any value is a name and up to four names and integers from 0."""
    if not isinstance(value, tuple) or not 1 <= len(value) <= 5:
        return False
    return is_name(value[0]) and all([is_name(item) or is_count(item) for item in value])


def is_whole(value):
    """Whether any value is an integer; True and False are none."""
    return isinstance(value, int) and not isinstance(value, bool)


def is_count(value):
    """Whether any value is an integer from 0."""
    return is_whole(value) and value >= 0


def is_day(value):
    """Whether any value is a day."""
    return is_count(value)


def is_amount(value):
    """Whether any value is an integer from 1."""
    return is_whole(value) and value >= 1


def is_price(value):
    """Whether any value is an integer from 1 to 99."""
    return is_whole(value) and 1 <= value <= 99
