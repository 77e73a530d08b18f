"""A desk, which keeps towns by names."""

from windround.errors import NoTown, Taken
from windround.mends import least_mend
from windround.papers import paper_of
from windround.plans import plan_of


def copied(town):
    """The same town, of lists of its own."""
    return (list(town[0]), list(town[1]))


class Desk:
    """Towns by names, and what is told of them."""

    def __init__(self):
        self.towns = {}

    def put(self, name, town):
        """Keeps a town by a new name; Taken where a town has it already."""
        if name in self.towns:
            raise Taken(f"a town has the name {name!r}")
        self.towns[name] = copied(town)

    def change(self, name, town):
        """Keeps another town by a name; NoTown where no town has it."""
        self.look_up(name)
        self.towns[name] = copied(town)

    def away(self, name):
        """Keeps a town no longer."""
        self.look_up(name)
        self.towns.pop(name)

    def names(self):
        """The names of the towns, in the order of texts."""
        return sorted(self.towns)

    def town(self, name):
        """The town of a name."""
        return copied(self.look_up(name))

    def plan(self, name):
        """A plan that keeps the town, or None."""
        return plan_of(self.look_up(name))

    def paper(self, name):
        """A paper that shuts the town out, or None."""
        return paper_of(self.look_up(name))

    def mend(self, name):
        """The least mend of the town; NoHands where it has no hands at all."""
        return least_mend(self.look_up(name))

    def look_up(self, name):
        """The desk's own town of a name; NoTown where no town has it."""
        if name not in self.towns:
            raise NoTown(f"no town has the name {name!r}")
        return self.towns[name]
