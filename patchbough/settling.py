"""Settled makes: the one form of all makes that make the same of each document that some asks let in."""

from patchbough.asks import filled, found_asks, inner_just, inner_nodes, is_open
from patchbough.docs import add_at, are_equal, copy_of, outer_copy, steps_of
from patchbough.makes import tells
from patchbough.walks import folded


def settled(makes, asks):
    """The settled makes over the asks that make the same."""
    return folded(makes, inner_nodes, lambda node, told: settled_part(node, told, asks))


def settled_part(makes, told, asks):
    """Settled makes, of makes and of what was told of those within them."""
    if makes[0] == "just":
        return ("just", copy_of(makes[1]))
    if makes[0] == "from":
        return settled_from(makes[1], asks)
    holder = filled(makes[1], told)
    just = inner_just(holder)
    if makes[2] is None and just is not None:
        return just
    path = path_of_whole(holder, makes[2])
    if path is not None and is_whole(holder, makes[2], path, asks):
        return ("from", path)
    return (makes[0], holder, makes[2])


def settled_from(path, asks):
    """The settled makes that make the part at a path."""
    found = found_asks(asks, path)
    if found[0] == "just":
        return ("just", copy_of(found[1]))
    return ("from", path)


def path_of_whole(holder, rest):
    """The one path whose part a row or table of these settled makes could be, or None.

    Without a tail or rest the part is of a row or table that isn't open. That
    tells more than justs, so one cell or name is a from, at its own step.
    """
    if rest is not None:
        return rest
    for step in steps_of(holder):
        node = holder[step]
        if node[0] == "from" and node[1][-1:] == (step,):
            return node[1][:-1]
    return None


def is_whole(holder, rest, path, asks):
    """Whether a row or table of these settled makes is the part, all of it, at the one path that it could be."""
    found = found_asks(asks, path)
    if is_open(found) != (rest is not None) or steps_of(holder) != steps_of(found[1]):
        return False
    return all([are_equal(holder[step], settled_from(path + (step,), asks)) for step in steps_of(holder)])


def narrowed(makes, asks, narrower):
    """The settled makes over narrower asks that make the same of what these let in."""
    wide = folded(makes, inner_nodes, lambda node, told: told_out(node, told, asks, narrower))
    return settled(wide, narrower)


def told_out(makes, told, asks, narrower):
    """Makes over the narrower asks, of makes over the asks and of what was told of those within them."""
    if makes[0] in ("just", "from"):
        return makes
    holder = filled(makes[1], told)
    path = makes[2]
    if path is None:
        return (makes[0], holder, None)
    there = found_asks(narrower, path)
    return (makes[0], grown(holder, path, found_asks(asks, path), there), path if is_open(there) else None)


def grown(holder, path, found, there):
    """The makes of a holder, with the parts at a path that the asks there tell and those found so far don't."""
    told = outer_copy(holder)
    for step in steps_of(there[1]):
        if not tells(found, step):
            add_at(told, step, ("from", path + (step,)))
    return told
