"""A second telling of the document, slow and plain, that shares no line with the program."""

import fractions
import itertools


def all_rows(town):
    clocks = range(len(town[0]))
    return [list(row) for many in range(len(town[0]) + 1) for row in itertools.combinations(clocks, many)]


def allowed(town, standing, row):
    day, lefts = standing
    due = {clock for clock, left in enumerate(lefts) if left == 1}
    return due <= set(row) and len(row) <= town[1][day]


def after(town, standing, row):
    day, lefts = standing
    new = [left - 1 for left in lefts]
    for clock in row:
        new[clock] = town[0][clock]
    return (0 if day + 1 == len(town[1]) else day + 1, tuple(new))


def all_standings(town):
    lefts = list(itertools.product(*[range(1, span + 1) for span in town[0]]))
    return [(day, left) for day in range(len(town[1])) for left in lefts]


def kept_standings(town):
    """The standings from which a way without end goes on: all, less those that have no way left, again and again."""
    rows = all_rows(town)
    onward, backward = {}, {}
    for standing in all_standings(town):
        ahead = {after(town, standing, row) for row in rows if allowed(town, standing, row)}
        onward[standing] = len(ahead)
        for other in ahead:
            backward.setdefault(other, []).append(standing)
    lost = [standing for standing in onward if onward[standing] == 0]
    kept = set(onward) - set(lost)
    while lost:
        for standing in backward.get(lost.pop(), []):
            onward[standing] -= 1
            if onward[standing] == 0:
                kept.discard(standing)
                lost.append(standing)
    return kept


def lost_ranks(town):
    """Every standing from which no way goes on for ever, with the most days until it is stuck."""
    rows = all_rows(town)
    ahead = {
        standing: [after(town, standing, row) for row in rows if allowed(town, standing, row)]
        for standing in all_standings(town)
    }
    ranks, rank, found = {}, 0, True
    while found:
        found = [one for one in ahead if one not in ranks and all(other in ranks for other in ahead[one])]
        ranks.update({one: rank for one in found})
        rank += 1
    return ranks


def kept_steps(town):
    """For each standing that can be come to and from which the town can be kept, its rows to such ones."""
    kept = kept_standings(town)
    rows = all_rows(town)
    steps = {}
    waiting = [(0, tuple(town[0]))] if (0, tuple(town[0])) in kept else []
    while waiting:
        standing = waiting.pop()
        if standing not in steps:
            found = [(row, after(town, standing, row)) for row in rows if allowed(town, standing, row)]
            steps[standing] = [(row, other) for row, other in found if other in kept]
            waiting += [other for row, other in steps[standing]]
    return steps


def least_mean(town, costs):
    """The least cost a day, by Karp's way: of all walks of so many steps as there are standings, and of all shorter."""
    steps = kept_steps(town)
    if not steps:
        return None
    walks = [{(0, tuple(town[0])): 0}]
    for turn in steps:
        longer = {}
        for standing, cost in walks[-1].items():
            for row, other in steps[standing]:
                new = cost + sum(costs[clock] for clock in row)
                longer[other] = min(new, longer.get(other, new))
        walks.append(longer)
    most = len(steps)
    return min(
        max(
            fractions.Fraction(walks[most][standing] - walks[many][standing], most - many)
            for many in range(most)
            if standing in walks[many]
        )
        for standing in walks[most]
    )


def holding(town, costs, fraction, prices):
    """Whether prices hold, each step held against the fraction."""
    return holding_in(kept_steps(town), costs, fraction, prices)


def holding_in(steps, costs, fraction, prices):
    if len(prices) != len(steps) or {standing for standing, price in prices} != set(steps):
        return False
    price = dict(prices)
    above, below = fraction
    return all(
        price[standing] - price[other] + above <= below * sum(costs[clock] for clock in row)
        for standing in steps
        for row, other in steps[standing]
    )


def mends(spans, size):
    """All lists of spans longer by so many days in all, in the order of lists."""
    more = [extra for extra in itertools.product(range(size + 1), repeat=len(spans)) if sum(extra) == size]
    return sorted([span + days for span, days in zip(spans, extra)] for extra in more)


def no_worse(one, other):
    return one[0] == other[0] and all(left >= right for left, right in zip(one[1], other[1]))


def shuts(town, paper):
    """Whether a paper shuts a town out, each choice held against each tuple of the paper."""
    spans, hands = town
    for day, lefts, rank in paper:
        if day not in range(len(hands)) or rank < 0:
            return False
        if any(left not in range(1, span + 1) for left, span in zip(lefts, spans)):
            return False
    if not any(no_worse(entry, (0, tuple(spans))) for entry in paper):
        return False
    for entry in paper:
        for row in all_rows(town):
            if allowed(town, entry[:2], row):
                other = after(town, entry[:2], row)
                if not any(less[2] < entry[2] and no_worse(less, other) for less in paper):
                    return False
    return True


def row_at(plan, day):
    first, again = plan
    return first[day] if day < len(first) else again[(day - len(first)) % len(again)]


def keeps_days(town, plan, days):
    """Whether a plan winds each clock in time over so many days, told by the days of the windings alone."""
    spans, hands = town
    last = [-1] * len(spans)
    for day in range(days):
        row = row_at(plan, day)
        if list(row) != sorted(set(row)) or len(row) > hands[day % len(hands)]:
            return False
        if any(clock not in range(len(spans)) for clock in row):
            return False
        for clock in row:
            last[clock] = day
        if any(day - last[clock] >= spans[clock] for clock in range(len(spans))):
            return False
    return True


def long_enough(town, plan):
    """So many days that a plan that fails at all fails within them."""
    return len(plan[0]) + 2 * len(plan[1]) + 2 * max(town[0])


def small_towns():
    """All towns of up to 3 clocks with spans up to 4 and up to 2 numbers of hands up to 2, clocks falling left out."""
    towns = []
    for many in (1, 2, 3):
        for spans in itertools.combinations_with_replacement(range(1, 5), many):
            for days in (1, 2):
                for hands in itertools.product(range(3), repeat=days):
                    towns.append((list(spans), list(hands)))
    return towns


def size_of(town):
    size = len(town[1])
    for span in town[0]:
        size *= span
    return size


def chance_towns(chance, many, most):
    """So many towns within the document's bounds, whose size is at most so much."""
    towns = []
    while len(towns) < many:
        spans = [chance.randint(1, 12) for clock in range(chance.randint(1, 6))]
        hands = [chance.randint(0, 3) for day in range(chance.randint(1, 6))]
        if size_of((spans, hands)) <= most:
            towns.append((spans, hands))
    return towns


GREATEST = [
    ([12, 12, 12], [1]),
    ([10, 10, 10], [1, 0]),
    ([10, 10, 10], [0, 1]),
    ([5, 5, 5, 8], [1, 0]),
    ([2, 5, 5, 5, 8], [1]),
    ([3, 3, 3, 4, 4, 4], [2]),
    ([3, 3, 3, 4, 4, 4], [1]),
    ([3, 3, 3, 3, 4, 6], [2]),
    ([2, 2, 2, 5, 5, 10], [2]),
    ([2, 2, 2, 5, 5, 10], [3]),
    ([2, 3, 12, 12], [1, 1]),
    ([4, 4, 5, 5, 5], [1]),
    ([4, 4, 5, 5, 5], [6]),
    ([3, 3, 4, 9], [1, 0, 2, 1, 1, 1]),
    ([3, 3, 4, 9], [1, 1, 2, 1, 1, 2]),
    ([6, 6, 9], [0, 1, 0, 1, 0, 2]),
    ([12, 12, 2], [0, 2, 0, 1, 0, 1]),
    ([1, 1, 1, 12, 12, 12], [4]),
    ([11, 12, 12], [0]),
]
