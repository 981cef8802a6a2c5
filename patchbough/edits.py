"""Edits: documents with something put, taken or changed at a path.

Each edit is made within a copy of its own, so that nothing handed in is
changed and nothing told is shared.
"""

from patchbough.docs import copy_of
from patchbough.errors import NoPart
from patchbough.paths import found_at, holds


def holder_of(doc, path):
    """The holder of a path itself, no copy of it."""
    if path == ():
        raise NoPart("the path of the whole document has no holder")
    return found_at(doc, path[:-1])


def full_holder_of(doc, path):
    """The holder of a path at which something stands."""
    holder = holder_of(doc, path)
    if not holds(holder, path[-1]):
        raise NoPart("nothing stands at this path")
    return holder


def has_room(holder, step):
    """Whether something can be put at this step of a holder."""
    if isinstance(step, str):
        return isinstance(holder, dict) and step not in holder
    return isinstance(holder, list) and 0 <= step <= len(holder)


def put_at(doc, path, value):
    """A document like doc in which the value stands at the path as well."""
    told = copy_of(doc)
    holder = holder_of(told, path)
    step = path[-1]
    if not has_room(holder, step):
        raise NoPart("nothing can be put at this path")
    if isinstance(step, str):
        holder[step] = copy_of(value)
    else:
        holder.insert(step, copy_of(value))
    return told


def taken_at(doc, path):
    """A tuple: what is left of doc without the part at the path, and this part."""
    rest = copy_of(doc)
    holder = full_holder_of(rest, path)
    part = holder.pop(path[-1])
    return (rest, part)


def changed_at(doc, path, value):
    """A document like doc with the value in the place of the part at the path."""
    if path == ():
        return copy_of(value)
    told = copy_of(doc)
    holder = full_holder_of(told, path)
    holder[path[-1]] = copy_of(value)
    return told
