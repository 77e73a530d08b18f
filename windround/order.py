"""Better and worse: standings of one town, and towns, held against one another."""


def none_less(ones, others):
    """Whether no number of the first is less than the one at its place in the second."""
    return all([one >= other for one, other in zip(ones, others)])


def no_worse(one, other):
    """Whether one standing is no worse than another of the same town."""
    return one[0] == other[0] and none_less(one[1], other[1])


def no_tighter(one, other):
    """Whether one town is no tighter than another."""
    if len(one[0]) != len(other[0]) or len(one[1]) != len(other[1]):
        return False
    return none_less(one[0], other[0]) and none_less(one[1], other[1])
