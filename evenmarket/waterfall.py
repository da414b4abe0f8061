"""The waterfall: who bears what a member lacks."""

from evenmarket.errors import BadAmount
from evenmarket.names import is_count, is_whole


def waterfall(lack, house, funds):
    """The tuple of the house's money and of the funds, by ascending names, behind a lack was borne."""
    check_bearing(lack, house, funds)
    return borne(lack, house, funds)


def bearer(lack, house, funds):
    """The name of who bears one unit more."""
    check_bearing(lack, house, funds)
    before, behind = borne(lack, house, funds)[1], borne(lack + 1, house, funds)[1]
    paying = [name for name in before if before[name] != behind[name]]
    return paying[0] if len(paying) > 0 else "house"


def check_bearing(lack, house, funds):
    """Raise BadAmount with the first value that is wrong."""
    if not is_count(lack):
        raise BadAmount(lack)
    if not is_whole(house):
        raise BadAmount(house)
    for name in sorted(funds):
        if not is_count(funds[name]):
            raise BadAmount(funds[name])


def borne(lack, house, funds):
    """The result of `waterfall`, all being right."""
    first = min(lack, max(0, house))
    left = {name: funds[name] for name in sorted(funds)}
    lack -= first
    able = [name for name in left if left[name] > 0]
    while lack > 0 and len(able) > 0:
        # Many turns at once, as long as they are alike; the rest of a turn falls to the first names.
        turns = min([lack // len(able)] + [left[name] for name in able])
        if turns == 0:
            able = able[:lack]
            turns = 1
        for name in able:
            left[name] -= turns
        lack -= turns * len(able)
        able = [name for name in left if left[name] > 0]
    return (house - first - lack, left)
