"""Telling: which facts may be told, and what of them holds."""

from evenmarket.told import told_of


def check(rules, facts, fact):
    """Raise what forbids to tell a fact behind others."""
    told_of(rules, facts).check(fact)


def numbered(rules, facts):
    """The tuples (number, fact) of all that are no fills."""
    return told_of(rules, facts).numbered()


def at_once(rules, facts):
    """The tuples (number, fact) that hold, by their numbers, without slips, fills and closings."""
    return told_of(rules, facts).holding({})
