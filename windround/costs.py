"""Costs: a plan that costs the least a day, and prices for standings, by which anyone can see that none costs less.

The ways of a town are a dict: for each standing that can be come to from the beginning and from which the town can be
kept, the list of tuples (row, standing behind), one for each choice that leads to such a standing. While the least cost
is looked for, standings are numbered, and a way is a step: a tuple (cost, number of the standing behind, row).
"""

from windround.days import begun, behind, choices
from windround.divisors import lowest_terms
from windround.plans import plan_of


def row_cost(row, costs):
    """The sum of the costs of a row's clocks."""
    return sum([costs[clock] for clock in row])


def cost_of(plan, costs):
    """What a plan costs a day, a fraction."""
    return lowest_terms(sum([row_cost(row, costs) for row in plan[1]]), len(plan[1]))


def all_ways(town):
    """The ways of every standing that can be come to, of those too from which the town cannot be kept."""
    ways = {}
    waiting = [begun(town)]
    while waiting:
        standing = waiting.pop()
        if standing not in ways:
            ways[standing] = [(row, behind(town, standing, row)) for row in choices(town, standing)]
            waiting.extend([way[1] for way in ways[standing]])
    return ways


def leading_to(ways):
    """For each standing the list of those that lead to it."""
    leading = {}
    for standing in ways:
        for way in ways[standing]:
            leading.setdefault(way[1], []).append(standing)
    return leading


def lost_among(ways):
    """The standings from which every way ends, as a dict of True."""
    leading = leading_to(ways)
    open_ways = {}
    for standing in ways:
        open_ways[standing] = len(ways[standing])
    waiting = [standing for standing in ways if not ways[standing]]
    lost = {}
    while waiting:
        standing = waiting.pop()
        lost[standing] = True
        for other in leading.get(standing, []):
            open_ways[other] -= 1
            if open_ways[other] == 0:
                waiting.append(other)
    return lost


def kept_ways(town):
    """The ways of a town; an empty dict where it cannot be kept."""
    ways = all_ways(town)
    lost = lost_among(ways)
    kept = {}
    for standing in ways:
        if standing not in lost:
            kept[standing] = [way for way in ways[standing] if way[1] not in lost]
    return kept


def steps_of(ways, standings, costs):
    """The list of steps of each of these standings, which are all that have ways."""
    numbers = {}
    for number, standing in enumerate(standings):
        numbers[standing] = number
    return [[(row_cost(way[0], costs), numbers[way[1]], way[0]) for way in ways[one]] for one in standings]


def prices_by(steps, cost, prices):
    """The greatest price that each of these steps lets the standing have from which it leads."""
    return [cost[1] * step[0] - cost[0] + prices[step[1]] for step in steps]


def priced(picked, cost):
    """Each standing's price by the step that is picked for it, 0 where none is; no picked steps lead round."""
    prices = {}
    for first in range(len(picked)):
        walk = []
        here = first
        while here not in prices and picked[here] is not None:
            walk.append(here)
            here = picked[here][1]
        prices.setdefault(here, 0)
        for number in reversed(walk):
            prices[number] = prices_by([picked[number]], cost, prices)[0]
    return [prices[number] for number in range(len(picked))]


def picked_again(steps, picked, cost, prices):
    """For each standing the step that asks for the least price, or what was picked where none asks for less."""
    found = []
    for number, price in enumerate(prices):
        asked = prices_by(steps[number], cost, prices)
        least = min(asked)
        found.append(steps[number][asked.index(least)] if least < price else picked[number])
    return found


def loops_among(picked):
    """The lists of picked steps that lead round, each of them once."""
    walks = {}
    loops = []
    for first in range(len(picked)):
        here = first
        while here not in walks and picked[here] is not None:
            walks[here] = first
            here = picked[here][1]
        if here in walks and walks[here] == first:
            loop = [picked[here]]
            while loop[-1][1] != here:
                loop.append(picked[loop[-1][1]])
            loops.append(loop)
    return loops


def loop_cost(loop):
    """What the steps of a loop cost a day, a fraction."""
    return lowest_terms(sum([step[0] for step in loop]), len(loop))


def is_less(one, other):
    """Whether one fraction is less than another."""
    return one[0] * other[1] < other[0] * one[1]


def cheapest(steps, cost):
    """The cheapest loop, or None where none costs less than that, and the prices that show it to be so.

    Steps are picked that ask for less and less. They can lead round only where a loop costs less than was known; then
    its cost is what is to be held against, and it is cut, so that prices can be told by the picked steps again.
    """
    best = None
    picked = [None for number in steps]
    while True:
        prices = priced(picked, cost)
        again = picked_again(steps, picked, cost, prices)
        if again == picked:
            return (best, prices)
        picked = again
        loops = loops_among(picked)
        for loop in loops:
            picked[loop[-1][1]] = None
            if is_less(loop_cost(loop), cost):
                best = loop
                cost = loop_cost(loop)


def way_between(steps, first, last):
    """The rows of a way from one standing to another, no way having fewer."""
    came = {first: None}
    waiting = [first]
    while last not in came:
        here = waiting.pop(0)
        for step in steps[here]:
            if step[1] not in came:
                came[step[1]] = (here, step[2])
                waiting.append(step[1])
    rows = []
    here = last
    while came[here] is not None:
        rows.append(came[here][1])
        here = came[here][0]
    rows.reverse()
    return rows


def loop_plan(steps, first, loop):
    """The plan that goes the shortest way to a loop and then round it, its rows no steps' own."""
    rows = way_between(steps, first, loop[-1][1])
    return ([list(row) for row in rows], [list(step[2]) for step in loop])


def least_cost(town, costs):
    """The tuple (cost, plan, prices) of the least cost, or None where the town cannot be kept."""
    plan = plan_of(town)
    if plan is None:
        return None
    ways = kept_ways(town)
    standings = sorted(ways)
    steps = steps_of(ways, standings, costs)
    found = cheapest(steps, cost_of(plan, costs))
    if found[0] is not None:
        plan = loop_plan(steps, standings.index(begun(town)), found[0])
    return (cost_of(plan, costs), plan, list(zip(standings, found[1])))


def prices_hold(town, costs, fraction, prices):
    """Whether prices are of just the standings of the ways, each once, and no way asks for a lesser one."""
    ways = kept_ways(town)
    if sorted([entry[0] for entry in prices]) != sorted(ways):
        return False
    price_at = dict(prices)
    for standing in ways:
        for way in ways[standing]:
            if fraction[1] * row_cost(way[0], costs) + price_at[way[1]] < fraction[0] + price_at[standing]:
                return False
    return True
