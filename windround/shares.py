"""Shares: how many windings a day the clocks want at least, and how many there are."""

from windround.divisors import least_multiple, lowest_terms


def wanted_in(spans, days):
    """How many windings the clocks want at least in a number of days that each span divides."""
    return sum([days // span for span in spans])


def share(spans):
    """The sum of 1 / span over the clocks, a fraction."""
    days = least_multiple(spans)
    return lowest_terms(wanted_in(spans, days), days)


def supply(hands):
    """How many windings there are a day, a fraction."""
    return lowest_terms(sum(hands), len(hands))


def shortage(town):
    """The tuple (days, wanted, there) where the clocks want more than there is, else None."""
    days = least_multiple(town[0] + [len(town[1])])
    wanted = wanted_in(town[0], days)
    there = days // len(town[1]) * sum(town[1])
    return (days, wanted, there) if wanted > there else None
