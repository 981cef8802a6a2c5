"""Makes: what is made of each document that some asks let in."""

from patchbough.asks import filled, found_asks, inner_nodes, is_open
from patchbough.docs import copy_of
from patchbough.paths import holds, part_at
from patchbough.walks import folded, gathered


def tells(asks, step):
    """Whether asks of a row or table tell something of a step into it; of a name also that it is lacking."""
    return holds(asks[1], step) or (asks[0] == "table" and step in asks[2])


def made(makes, asks, doc):
    """What the makes over some asks make of a document that these let in."""
    return folded(makes, inner_nodes, lambda node, told: made_part(node, told, asks, doc))


def made_part(makes, told, asks, doc):
    """What the makes make, of what those within them made."""
    if makes[0] == "just":
        return copy_of(makes[1])
    if makes[0] == "from":
        return part_at(doc, makes[1])
    holder = filled(makes[1], told)
    if makes[2] is None:
        return holder
    found = found_asks(asks, makes[2])
    part = part_at(doc, makes[2])
    if makes[0] == "row":
        return holder + part[len(found[1]):]
    for name in part:
        if not tells(found, name):
            holder[name] = part[name]
    return holder


def good_makes(makes, asks):
    """Whether these are makes over the asks."""
    return all([is_good_part(node, asks) for node in gathered(makes, inner_nodes)])


def is_good_part(makes, asks):
    """Whether these are makes over the asks, if those within them are."""
    if makes[0] == "just":
        return True
    if makes[0] == "from":
        return found_asks(asks, makes[1]) is not None
    return makes[2] is None or is_good_rest(makes, found_asks(asks, makes[2]))


def is_good_rest(makes, found):
    """Whether the tail of a row or the rest of a table may be at a path where these asks are found."""
    if found is None or found[0] != makes[0] or not is_open(found):
        return False
    return makes[0] == "row" or all([tells(found, name) for name in makes[1]])
