"""Mends: by how little spans must be longer so that a town can be kept, and what clock there is room for beside it."""

from windround.errors import NoHands
from windround.papers import paper_of
from windround.plans import plan_of


def mends_of(spans, size):
    """All lists of spans that are longer by so many days in all, in the order of lists."""
    if len(spans) == 1:
        return [[spans[0] + size]]
    found = []
    for more in range(size + 1):
        found.extend([[spans[0] + more] + rest for rest in mends_of(spans[1:], size - more)])
    return found


def first_kept(mends, hands):
    """The tuple (spans, plan) of the first of these lists of spans that can be kept, or None."""
    for spans in mends:
        plan = plan_of((spans, hands))
        if plan is not None:
            return (spans, plan)
    return None


def least_mend(town):
    """The tuple (size, spans, plan, papers) of the least mend; NoHands where there are no hands at all."""
    hands = town[1]
    if sum(hands) == 0:
        raise NoHands("no day has any hands")
    size = 0
    lesser = []
    mends = mends_of(town[0], size)
    found = first_kept(mends, hands)
    while found is None:
        size += 1
        lesser = mends
        mends = mends_of(town[0], size)
        found = first_kept(mends, hands)
    papers = [(spans, paper_of((spans, hands))) for spans in lesser]
    return (size, found[0], found[1], papers)


def room_beside(town, most):
    """The least span up to a bound that a clock more may have, or None where none does."""
    for span in range(1, most + 1):
        if plan_of((town[0] + [span], town[1])) is not None:
            return span
    return None
