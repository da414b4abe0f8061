"""Dicts of integers that are added up key by key."""


def summed(parts):
    """What dicts have of each key together, as far as it is not 0, by ascending keys."""
    totals = {}
    for part in parts:
        for key in part:
            totals[key] = totals.get(key, 0) + part[key]
    return {key: totals[key] for key in sorted(totals) if totals[key] != 0}


def opposite(part):
    """The dict with the opposite integers."""
    return {key: -part[key] for key in part}
