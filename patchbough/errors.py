"""The refusals: one class for each, all of them under BoughError."""


class BoughError(ValueError):
    """Any refusal."""


class NoPart(BoughError):
    """Nothing stands at a path, or nothing can be put there."""


class NoRow(BoughError):
    """What was handed in is no row; at is the place in it that is amiss."""

    def __init__(self, at):
        self.at = at


class NoFit(BoughError):
    """A row doesn't fit the document; at is the row's place."""

    def __init__(self, at):
        self.at = at


class NoPatch(BoughError):
    """Rows make no patch; at is the place of the first row that can't stand in one."""

    def __init__(self, at):
        self.at = at


class Clash(BoughError):
    """Two rows clash; at is the place of the one, other that of the other one."""

    def __init__(self, at, other):
        self.at = at
        self.other = other


class NoText(BoughError):
    """A text doesn't write what it ought to; at is the number of the row that is amiss."""

    def __init__(self, at):
        self.at = at


class NoDeed(BoughError):
    """A line is none that the desk can follow."""
