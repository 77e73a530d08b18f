"""Even plans: each clock is wound by one winder, on just the days that leave a rest when divided by a step.

An even plan is a list of tuples (winder, rest, step), one for each clock.
"""

from windround.divisors import divisor_and_factor, least_multiple
from windround.shares import share

MOST_X = 200


def clash(rest, step, other_rest, other_step):
    """The first day that leaves both rests when divided by their steps, or None."""
    found = divisor_and_factor(step, other_step)
    divisor = found[0]
    apart = other_rest - rest
    if apart % divisor != 0:
        return None
    # So many steps of the one lead just as far as the rests are apart, but for whole steps of the other.
    turns = apart // divisor * found[1] % (other_step // divisor)
    return rest + step * turns


def do_clash(one, other):
    """Whether two clocks of an even plan have one winder and a common day."""
    return one[0] == other[0] and clash(one[1], one[2], other[1], other[2]) is not None


def is_part(part, span, winders):
    """Whether a tuple is one of an even plan, and winds a clock of that span in time."""
    return 0 <= part[0] < winders and 1 <= part[2] <= span and 0 <= part[1] < part[2]


def is_even(town, even):
    """Whether a list of tuples is an even plan that keeps a town of one number of hands."""
    spans = town[0]
    winders = town[1][0]
    if len(even) != len(spans):
        return False
    # The tuples by themselves come first, since clash is told for good rests and steps alone.
    if not all([is_part(part, span, winders) for part, span in zip(even, spans)]):
        return False
    for clock, part in enumerate(even):
        if any([do_clash(part, other) for other in even[:clock]]):
            return False
    return True


def is_chain(spans):
    """Whether of any two spans one divides the other."""
    rising = sorted(spans)
    return all([other % one == 0 for one, other in zip(rising, rising[1:])])


def is_too_much(spans, winders):
    """Whether the share of the spans is more than the winders."""
    found = share(spans)
    return found[0] > winders * found[1]


def rest_at(place, steps):
    """The rest, by the last of the steps, of a place below it; each step divides the next, and the first is 1.

    Places are numbered with the coarsest cut of the time ahead of the finer ones, rests with the finest ahead. So the
    places that lie in one coarse part are just the rests that leave the same rest when divided by the coarse step, and
    clocks whose parts lie apart have no common day.
    """
    rest = 0
    for step, finer in reversed(list(zip(steps, steps[1:]))):
        parts = finer // step
        rest = rest + place % parts * step
        place = place // parts
    return rest


def chain_plan(spans, winders):
    """An even plan with these spans as steps, or None where they are no chain or their share is too much."""
    if not is_chain(spans) or is_too_much(spans, winders):
        return None
    even = {}
    steps = [1]
    # How much of the winders' time is taken, in parts of the last step.
    taken = 0
    for clock in sorted(range(len(spans)), key=lambda number: spans[number]):
        step = spans[clock]
        taken = taken * (step // steps[-1])
        steps.append(step)
        even[clock] = (taken // step, rest_at(taken % step, steps), step)
        taken = taken + 1
    return [even[clock] for clock in range(len(spans))]


def rounded(spans, x):
    """The spans rounded down to x, 2 x, 4 x and so on, or None where one is below x."""
    if min(spans) < x:
        return None
    found = []
    for span in spans:
        step = x
        while 2 * step <= span:
            step = 2 * step
        found.append(step)
    return found


def even_plan(town):
    """An even plan whose steps are the spans rounded by the least x by which the town fits, or None."""
    for x in range(1, MOST_X + 1):
        steps = rounded(town[0], x)
        # A span below x is below every greater one, too.
        if steps is None:
            return None
        # Rounded spans are a chain, so a plan is there just where their share is not too much.
        even = chain_plan(steps, town[1][0])
        if even is not None:
            return even
    return None


def row_on(even, day):
    """The clocks, rising, that are wound on a day."""
    return [clock for clock, part in enumerate(even) if day % part[2] == part[1]]


def days_of(even):
    """The plan, begun without rows, whose round is the least number of days behind which all comes again."""
    days = least_multiple([part[2] for part in even])
    return ([], [row_on(even, day) for day in range(days)])
