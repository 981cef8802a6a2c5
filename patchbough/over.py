"""Rows of patches that were made apart: whether two clash, and how the one is counted behind the other."""

from patchbough.docs import copy_of
from patchbough.errors import Clash
from patchbough.paths import begins
from patchbough.shifts import (after, bars, comes_to, gone_by, is_place, moved_by, needs, place_behind, place_into,
                               reads, with_place)


def does_begin(one, other):
    """Whether path one begins path other; None begins nothing, and nothing begins None."""
    return one is not None and other is not None and begins(one, other)


def begins_some(path, others):
    """Whether a path begins one of the others; None begins nothing."""
    return any([does_begin(path, other) for other in others])


def holder_of_coming(row):
    """The path of the row or table to which something comes, or None."""
    coming = comes_to(row)
    if coming is None:
        return None
    return coming[0]


def spoils_read(one, other):
    """Whether the other row changes something of what the one reads."""
    path = reads(one)
    moved = moved_by(other)
    if does_begin(path, gone_by(other)) or does_begin(path, holder_of_coming(other)):
        return True
    # What is moved as a whole can still be read where it stands then.
    return does_begin(path, moved) and path != moved


def bars_same(one, other):
    """Whether both rows bar the same name, and the one isn't content that it is lacking."""
    return one[0] != "lacks" and bars(one) is not None and bars(one) == bars(other)


def bars_needed(one, other):
    """Whether the one row bars a name at which the other one needs something."""
    barred = bars(one)
    return barred is not None and begins_some(barred[0] + (barred[1],), needs(other))


def moves_same(one, other):
    """Whether both rows move the same part."""
    return moved_by(one) is not None and moved_by(one) == moved_by(other)


def moves_into(one, other):
    """Whether the one row moves what holds that to which something comes by the other."""
    return does_begin(moved_by(one), holder_of_coming(other))


def clashes_one_way(one, other):
    """Whether the one row clashes with the other, these two not changed about."""
    if begins_some(gone_by(one), needs(other)) or spoils_read(one, other):
        return True
    if bars_same(one, other) or bars_needed(one, other) or moves_same(one, other):
        return True
    return moves_into(one, other) and moves_into(other, one)


def clashes(one, other):
    """Whether two rows clash."""
    return clashes_one_way(one, other) or clashes_one_way(other, one)


def coming_over(one, other, first):
    """Where something comes by the one row, as it is counted behind the other; a move's own part is counted in."""
    coming = comes_to(one)
    step = coming[1]
    if is_place(step):
        step = place_behind(coming[0], step, other, not first)
    return after(coming[0], other) + (step,)


def behind_taking(to, path):
    """A path as it is counted without the part at another path, which was counted in."""
    holder = path[:-1]
    place = place_into(to, holder)
    if place is None or not is_place(path[-1]) or place <= path[-1]:
        return to
    return with_place(to, holder, place - 1)


def over(one, other, first):
    """The row one as it is counted behind the row other; where both come to one place, the first stands ahead."""
    if clashes(one, other):
        raise Clash(0, 0)
    word = one[0]
    if word == "put":
        return (word, coming_over(one, other, first), copy_of(one[2]))
    if word == "lacks":
        return (word, after(one[1][:-1], other) + one[1][-1:])
    path = after(one[1], other)
    if word == "move":
        return (word, path, behind_taking(coming_over(one, other, first), path))
    if word == "copy":
        return (word, path, coming_over(one, other, first))
    if word in ("change", "ask"):
        return (word, path, copy_of(one[2]))
    return (word, path) + one[2:]
