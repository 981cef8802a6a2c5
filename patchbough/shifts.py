"""Shifts: what a row of a patch touches, and where what stood ahead of it stands behind it.

Paths are counted in a document ahead of the row.
"""

from patchbough.paths import begins

WORDS_OF_PARTS = ("take", "change", "move", "copy", "ask", "has", "is")
WORDS_OF_COMING = ("put", "copy", "move")


def gone_by(row):
    """The path of what a row takes or changes, or None."""
    if row[0] in ("take", "change"):
        return row[1]
    return None


def moved_by(row):
    """The path of what a row moves, or None."""
    if row[0] == "move":
        return row[1]
    return None


def reads(row):
    """The path of what a row asks for whole, or copies, or None."""
    if row[0] in ("ask", "copy"):
        return row[1]
    return None


def is_place(step):
    """Whether a step is a place."""
    return not isinstance(step, str)


def place_into(path, holder):
    """The place at which a path goes into the row at the path of a holder, or None."""
    if begins(holder, path) and len(holder) < len(path) and is_place(path[len(holder)]):
        return path[len(holder)]
    return None


def with_place(path, holder, place):
    """The path with this place in that of the one at which it goes into the row at the path of a holder."""
    return holder + (place,) + path[len(holder) + 1:]


def ahead_of_taking(to, path):
    """A path that is counted without the part at another path, as it is counted with it."""
    holder = path[:-1]
    place = place_into(to, holder)
    if place is None or not is_place(path[-1]) or place < path[-1]:
        return to
    if place == path[-1] and len(to) == len(path):
        return to
    return with_place(to, holder, place + 1)


def comes_to(row):
    """The tuple (holder, step) that tells where something comes, or None."""
    if row[0] not in WORDS_OF_COMING:
        return None
    to = row[1]
    if row[0] == "copy":
        to = row[2]
    if row[0] == "move":
        to = ahead_of_taking(row[2], row[1])
    return (to[:-1], to[-1])


def needs(row):
    """The paths at which something has to stand."""
    told = []
    if row[0] in WORDS_OF_PARTS:
        told.append(row[1])
    if row[0] == "lacks":
        told.append(row[1][:-1])
    if row[0] in WORDS_OF_COMING:
        told.append(comes_to(row)[0])
    return told


def bars(row):
    """The tuple (holder, name) of a name that has to be lacking, or None."""
    if row[0] == "lacks":
        return (row[1][:-1], row[1][-1])
    coming = comes_to(row)
    if coming is None or is_place(coming[1]):
        return None
    return coming


def leaves(row):
    """The path of what a row takes from where it stands, and nothing comes in its place, or None."""
    if row[0] in ("take", "move"):
        return row[1]
    return None


def place_behind(holder, place, row, ahead):
    """What a place of the row at the path of a holder is behind a row of a patch.

    What comes to this very place stands ahead of it, or, where ahead is False, not.
    """
    told = place
    gone = leaves(row)
    if gone is not None and gone[:-1] == holder and is_place(gone[-1]) and gone[-1] < place:
        told = told - 1
    coming = comes_to(row)
    if coming is None or coming[0] != holder or not is_place(coming[1]):
        return told
    if coming[1] < place or (ahead and coming[1] == place):
        return told + 1
    return told


def step_behind(holder, step, row):
    """What a step into the row or table at the path of a holder is behind a row of a patch."""
    if is_place(step):
        return place_behind(holder, step, row, True)
    return step


def after(path, row):
    """Where the part that stood at a path stands behind the row, or None where it went."""
    gone = gone_by(row)
    if gone is not None and begins(gone, path):
        return None
    taken = moved_by(row)
    if taken is not None and begins(taken, path):
        return row[2] + path[len(taken):]
    return tuple([step_behind(path[:at], step, row) for at, step in enumerate(path)])
