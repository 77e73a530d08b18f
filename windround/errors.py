"""The refusals of the program."""


class TownError(ValueError):
    """Any refusal."""


class NoDay(TownError):
    """A row that may not be wound; day is its number, counted from 0."""

    def __init__(self, day):
        self.day = day


class NoHands(TownError):
    """A town without any hands, where some are needed."""


class NoText(TownError):
    """A line that is no written town or plan."""


class NoTown(TownError):
    """A name that no town has."""


class Taken(TownError):
    """A name that a town has already."""
