"""Picks of places, and choices of one thing from each option."""


def all_picks(many):
    """Return all picks of so many places: fewer places first, then by their places."""
    picks = [()]
    for place in range(many):
        picks = picks + [pick + (place,) for pick in picks]
    return sorted(picks, key=lambda pick: (len(pick), pick))


def choices_from(options):
    """Return a list of all tuples with a thing of each option, in their order; ascending if the options are."""
    found = [()]
    for things in options:
        found = [choice + (thing,) for choice in found for thing in things]
    return found
