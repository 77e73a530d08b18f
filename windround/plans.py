"""Plans: rows to begin with and a round of rows that is gone again and again."""

from windround.days import begun, behind, choices, gone
from windround.errors import NoDay


def winds_all(rows, clocks):
    """Whether each clock below that number is in some row."""
    return all([any([clock in row for row in rows]) for clock in range(clocks)])


def keeps(town, plan):
    """Whether a plan, gone on with for ever, keeps the town."""
    again = plan[1]
    if not again or len(again) % len(town[1]) != 0:
        return False
    # A clock that the round leaves out may outlast two rounds, yet not all of them.
    if not winds_all(again, len(town[0])):
        return False
    # Twice round, so that the way from the round's end into its beginning is gone, too.
    try:
        gone(town, begun(town), plan[0] + again + again)
    except NoDay:
        return False
    return True


def full_rows(town, standing):
    """The choices that use as many hands as can be used, those with the most pressing clocks first.

    The others need no look: a row with further clocks leaves the standing no worse.
    """
    lefts = standing[1]
    rows = choices(town, standing)
    full = [row for row in rows if len(row) == len(rows[-1])]
    return sorted(full, key=lambda row: sorted([lefts[clock] for clock in row]))


def looked_through(town, standing):
    """A way without end from a standing, or None, and the list of the standings that were found to have none.

    The way is told as a plan. In the list each standing comes behind all those that its full rows lead to.
    """
    path = [standing]
    ways = [full_rows(town, standing)]
    # Where a standing stands on the path; None once every way from it is known to end.
    places = {standing: 0}
    lost = []
    while path:
        if not ways[-1]:
            lost.append(path.pop())
            places[lost[-1]] = None
            ways.pop()
            continue
        ahead = behind(town, path[-1], ways[-1][0])
        if ahead not in places:
            places[ahead] = len(path)
            path.append(ahead)
            ways.append(full_rows(town, ahead))
        elif places[ahead] is None:
            ways[-1].pop(0)
        else:
            rows = [way[0] for way in ways]
            return ((rows[:places[ahead]], rows[places[ahead]:]), lost)
    return (None, lost)


def plan_of(town):
    """A plan that keeps the town, or None where none does."""
    return looked_through(town, begun(town))[0]


def can_keep(town, standing):
    """Whether some row of rows without end goes on from a standing."""
    return looked_through(town, standing)[0] is not None
