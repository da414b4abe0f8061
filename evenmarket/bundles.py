"""Bundles: dues that can only be handed over all at once."""

from evenmarket.greatest import all_sets, goes_together, greatest_within, settled


def bundles(held):
    """The ascending lists of all bundles, those with fewer dues first."""
    found = []
    for numbers in all_sets(held):
        # The sets with fewer dues came before, so every bundle that could be a part of this one is there.
        if len(numbers) > 0 and not any([is_part(bundle, numbers) for bundle in found]):
            found.append(numbers)
    return found


def unwinding(held):
    """The first bundle, then the first one of the round behind it, and so on."""
    found = []
    bundle = first_bundle(held)
    while bundle is not None:
        found.append(bundle)
        held = held.after(bundle)
        bundle = first_bundle(held)
    return found


def is_unwinding(held, value):
    """Whether any value is a list of bundles, each in the round behind those before, that are the greatest set."""
    if not isinstance(value, (list, tuple)):
        return False
    for numbers in value:
        if not is_bundle(held, numbers):
            return False
        held = held.after(numbers)
    return len(settled(held)) == 0


def is_part(some, numbers):
    """Whether all of some numbers are among others."""
    return all([number in numbers for number in some])


def first_bundle(held):
    """The first bundle of a round, or None."""
    for numbers in all_sets(held):
        if len(numbers) > 0:
            return numbers
    return None


def is_bundle(held, value):
    """Whether any value is a list of the numbers of a bundle, each once."""
    if not goes_together(held, value) or len(value) == 0:
        return False
    # A lesser part of it lacks one of its dues, so it is within the greatest set without that due.
    return all([len(greatest_within(held, [one for one in value if one != number])) == 0 for number in value])
