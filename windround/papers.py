"""Papers: standings with ranks, by which anyone can see that a town cannot be kept.

A paper is a list of tuples (day, lefts, rank).
"""

from windround.days import begun, behind, choices
from windround.plans import full_rows, looked_through


def paper_of(town):
    """A paper that shuts the town out, or None where none does."""
    found = looked_through(town, begun(town))
    if found[0] is not None:
        return None
    ranks = {}
    # Each standing comes behind those that its rows lead to, so their ranks are there already.
    for standing in found[1]:
        ahead = [behind(town, standing, row) for row in full_rows(town, standing)]
        ranks[standing] = max([ranks[other] + 1 for other in ahead], default=0)
    return [(standing[0], standing[1], ranks[standing]) for standing in found[1]]


def is_ranked(town, entry):
    """Whether a tuple is of a standing of the town and a rank."""
    fits = all([1 <= left <= span for left, span in zip(entry[1], town[0])])
    return fits and 0 <= entry[0] < len(town[1]) and entry[2] >= 0


def next_worse(standing):
    """The standings in which just one left is less, and by one."""
    lefts = standing[1]
    places = [place for place, left in enumerate(lefts) if left > 1]
    return [(standing[0], lefts[:place] + (lefts[place] - 1,) + lefts[place + 1:]) for place in places]


def least_ranks(paper):
    """For each standing than which some of the paper is no worse, the least rank of such a one."""
    ranks = {}
    for entry in sorted(paper, key=lambda one: one[2]):
        waiting = [(entry[0], entry[1])]
        while waiting:
            standing = waiting.pop()
            # Where a rank is there already it is no greater, and those that are worse have theirs, too.
            if standing not in ranks:
                ranks[standing] = entry[2]
                waiting.extend(next_worse(standing))
    return ranks


def leads_down(town, entry, ranks):
    """Whether each choice leads to a standing than which one of the paper with a less rank is no worse."""
    standing = (entry[0], entry[1])
    ahead = [behind(town, standing, row) for row in choices(town, standing)]
    return all([other in ranks and ranks[other] < entry[2] for other in ahead])


def shuts_out(town, paper):
    """Whether a paper shuts a town out."""
    if not all([is_ranked(town, entry) for entry in paper]):
        return False
    ranks = least_ranks(paper)
    if begun(town) not in ranks:
        return False
    for entry in paper:
        if not leads_down(town, entry, ranks):
            return False
    return True
