"""Standings of a town, the rows that may be wound in them, and what lies behind a row.

A town is a tuple (spans, hands), a standing a tuple (day, lefts), a row a list of clocks.
"""

from windround.errors import NoDay


def begun(town):
    """The standing on day 0, with every clock freshly wound."""
    return (0, tuple(town[0]))


def hands_on(town, standing):
    """How many windings can be done on the standing's day."""
    return town[1][standing[0]]


def choices(town, standing):
    """All rows that may be wound: fewer clocks ahead of more, of as many by the order of lists."""
    most = hands_on(town, standing)
    rows = [[]]
    for clock, left in enumerate(standing[1]):
        with_it = [row + [clock] for row in rows if len(row) < most]
        # A due clock may not be passed over, so the rows without it are dropped.
        rows = with_it if left == 1 else rows + with_it
    return sorted(rows, key=lambda row: (len(row), row))


def is_stuck(town, standing):
    """Whether more clocks are due than the day has hands."""
    return standing[1].count(1) > hands_on(town, standing)


def is_row(row, clocks):
    """Whether a list is of clocks below that number, rising, none twice."""
    rising = all([one < other for one, other in zip(row, row[1:])])
    return rising and all([0 <= clock < clocks for clock in row])


def may_wind(town, standing, row):
    """Whether a row may be wound in a standing."""
    if not is_row(row, len(town[0])) or len(row) > hands_on(town, standing):
        return False
    return all([clock in row for clock, left in enumerate(standing[1]) if left == 1])


def behind(town, standing, row):
    """The standing behind a row that is known to be one that may be wound."""
    spans = town[0]
    lefts = [spans[clock] if clock in row else left - 1 for clock, left in enumerate(standing[1])]
    return ((standing[0] + 1) % len(town[1]), tuple(lefts))


def wound(town, standing, row):
    """The standing behind a row; NoDay, 0, where it may not be wound."""
    return gone(town, standing, [row])


def gone(town, standing, rows):
    """The standing behind all rows; NoDay, its number, at the first one that may not be wound."""
    here = standing
    for number, row in enumerate(rows):
        if not may_wind(town, here, row):
            raise NoDay(number)
        here = behind(town, here, row)
    return here
