"""Towns made of towns, and plans carried over to them.

The plans here are of rising rows of clocks of their town, whether they keep it or not.
"""

from windround.divisors import least_multiple


def shared_out(town, clock, many):
    """The town with so many clocks in the place of one, each of so many times its span."""
    spans = town[0]
    return (spans[:clock] + [many * spans[clock]] * many + spans[clock + 1:], list(town[1]))


def numbered_on(number, clock, more):
    """The number of a clock where those behind one are numbered on by so many more."""
    return number + more if number > clock else number


def carried_out(town, plan, clock, many):
    """The plan in which the windings of a clock go to the clocks that it is shared out to, in turn."""
    ahead = len(plan[0])
    rows = []
    turn = 0
    # Behind so many rounds the turn is the same as ahead of them, however many windings a round has.
    for row in plan[0] + plan[1] * many:
        rows.append([clock + turn if number == clock else numbered_on(number, clock, many - 1) for number in row])
        if clock in row:
            turn = (turn + 1) % many
    return (rows[:ahead], rows[ahead:])


def left_out(town, clock):
    """The town without a clock, the others numbered on."""
    return (town[0][:clock] + town[0][clock + 1:], list(town[1]))


def without(rows, clock):
    """The rows without a clock, the others numbered on."""
    return [[numbered_on(number, clock, -1) for number in row if number != clock] for row in rows]


def carried_on(town, plan, clock):
    """The plan without the windings of a clock."""
    return (without(plan[0], clock), without(plan[1], clock))


def joined_town(one, other):
    """The clocks of the one town, then those of the other; on each day the hands of both."""
    ones = one[1]
    others = other[1]
    days = least_multiple([len(ones), len(others)])
    hands = [ones[day % len(ones)] + others[day % len(others)] for day in range(days)]
    return (one[0] + other[0], hands)


def row_at(plan, day):
    """The row with which a plan is gone on a day."""
    ahead = len(plan[0])
    return plan[0][day] if day < ahead else plan[1][(day - ahead) % len(plan[1])]


def joined_plan(town, plan, other_plan):
    """A plan of the town joined with one of another town, whose clocks are numbered on."""
    more = len(town[0])
    ahead = max(len(plan[0]), len(other_plan[0]))
    days = ahead + least_multiple([len(plan[1]), len(other_plan[1])])
    rows = [row_at(plan, day) + [number + more for number in row_at(other_plan, day)] for day in range(days)]
    return (rows[:ahead], rows[ahead:])
