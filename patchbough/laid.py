"""Patches that were made apart, laid over one another."""

from patchbough.errors import Clash
from patchbough.over import over


def laid(one, other):
    """The tuple (ones, others): the rows of each patch as they are counted behind those of the other one."""
    ones = []
    others = other.rows()
    for at, row in enumerate(one.rows()):
        told = told_over(row, others, at)
        ones.append(told[0])
        others = told[1]
    return (ones, others)


def told_over(row, others, at):
    """A tuple: the row, whose place is at, counted behind all the others, and the others, each behind this row."""
    told = []
    for place, other in enumerate(others):
        try:
            behind = over(row, other, True)
            told.append(over(other, row, False))
        except Clash:
            raise Clash(at, place) from None
        row = behind
    return (row, told)
