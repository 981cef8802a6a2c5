"""Paths, and the parts of a document that stand at them."""

from patchbough.docs import copy_of, is_name, is_whole, steps_of
from patchbough.errors import NoPart


def is_step(thing):
    """Whether this is a step, whatever it is: a name or a place."""
    return is_name(thing) or (is_whole(thing) and thing >= 0)


def is_path(thing):
    """Whether this is a path, whatever it is."""
    return isinstance(thing, tuple) and all([is_step(step) for step in thing])


def holds(doc, step):
    """Whether a document is a table that has this name, or a row that has this place."""
    if isinstance(step, str):
        return isinstance(doc, dict) and step in doc
    return isinstance(doc, list) and 0 <= step < len(doc)


def found_at(doc, path):
    """The part at a path itself, no copy of it; for callers who keep it to themselves."""
    part = doc
    for step in path:
        if not holds(part, step):
            # The path isn't told here: a place may have more figures than Python shows.
            raise NoPart("nothing stands at this path")
        part = part[step]
    return part


def part_at(doc, path):
    """A copy of the part at a path."""
    return copy_of(found_at(doc, path))


def has_part(doc, path):
    """Whether a part stands at a path."""
    try:
        found_at(doc, path)
    except NoPart:
        return False
    return True


def paths_of(doc):
    """The paths of all parts of a document, each ahead of those that go through it."""
    told = []
    waiting = [((), doc)]
    while waiting:
        entry = waiting.pop()
        path = entry[0]
        part = entry[1]
        told.append(path)
        # The last to come is the first to be looked at, so the first step comes last.
        for step in reversed(steps_of(part)):
            waiting.append((path + (step,), part[step]))
    return told


def begins(one, other):
    """Whether path one begins path other."""
    return other[:len(one)] == one
